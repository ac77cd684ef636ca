"""Decision tables: columns, an outcome, a way of choosing, and rows that take codes."""

from rowjudge.domains import Words, is_word
from rowjudge.errors import BadName, BadRow, BadWay, Clash, Hole, TooMany
from rowjudge.spans import holds
from rowjudge.ways import way_by

MOST_COLUMNS = 4
MOST_ROWS = 200


class Table:
    def __init__(self, name, names, domains, outcome, way, rows):
        refuse_names([name] + names)
        refuse_counts(names, rows)
        refuse_way(way, outcome)
        for cells, code in rows:
            refuse_row(domains, outcome, cells, code)
        self.name = name
        self.names = list(names)
        self.domains = list(domains)
        self.outcome = outcome
        self.way = way
        self.rows = [own_row(cells, code) for cells, code in rows]


def refuse_names(names):
    for name in names:
        if not is_word(name):
            raise BadName(f"{name!r} is no word")
    if len(set(names)) < len(names):
        raise BadName("two names are alike")


def refuse_counts(names, rows):
    if not 1 <= len(names) <= MOST_COLUMNS:
        raise TooMany("a table has 1 to 4 columns")
    if len(rows) > MOST_ROWS:
        raise TooMany("a table has at most 200 rows")


def refuse_way(way, outcome):
    # way_by refuses a name that is none.
    if way_by(way).called == "sum" and isinstance(outcome, Words):
        raise BadWay("words have no sum")


def refuse_row(domains, outcome, cells, code):
    if len(cells) != len(domains):
        raise BadRow("a row has one cell for each column")
    for domain, spans in zip(domains, cells):
        for low, high in spans:
            if low < domain.low or high > domain.high:
                raise BadRow("a cell has a code outside of its column's domain")
    if not outcome.has_code(code):
        raise BadRow(f"{code!r} is no code of the outcome")


# A copy all the way down: the asker may change the lists behind the call, those of spans too.
def own_row(cells, code):
    return ([list(spans) for spans in cells], code)


def fits(table, k, codes):
    cells = table.rows[k][0]
    for spans, code in zip(cells, codes):
        if not holds(spans, code):
            return False
    return True


def mask(table, codes):
    return sum([1 << k for k in range(len(table.rows)) if fits(table, k, codes)])


def judged(table, rows):
    codes = [row[1] for k, row in enumerate(table.rows) if rows >> k & 1]
    return way_by(table.way).verdict(codes, table.outcome)


def verdict(table, codes):
    return judged(table, mask(table, codes))


def coded(table, values):
    return [domain.code(value) for domain, value in zip(table.domains, values)]


def answer(table, values):
    told = verdict(table, coded(table, values))
    if told[0] == "none":
        raise Hole("no row fits")
    if told[0] == "clash":
        raise Clash("the rows that fit clash")
    return table.outcome.worth(told[1])


def with_rows(table, rows):
    return Table(table.name, table.names, table.domains, table.outcome, table.way, rows)
