"""The refusals: one class for each, all straight under TableError."""


class TableError(ValueError):
    pass


class BadNumber(TableError):
    pass


class BadName(TableError):
    pass


class BadDomain(TableError):
    pass


class BadCell(TableError):
    pass


class BadWay(TableError):
    pass


class BadRow(TableError):
    pass


class BadLine(TableError):
    pass


class TooMany(TableError):
    pass


class TooFine(TableError):
    pass


class Outside(TableError):
    pass


class Hole(TableError):
    pass


class Clash(TableError):
    pass


class Unlike(TableError):
    pass


class NoTable(TableError):
    pass


class NoFact(TableError):
    pass


class Ring(TableError):
    pass
