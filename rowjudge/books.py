"""Books: facts, and tables whose columns are facts or other tables."""

from rowjudge.domains import alike, is_word
from rowjudge.errors import BadName, NoTable, Ring, TooMany, Unlike

MOST_FACTS = 20
MOST_TABLES = 30


class Book:
    def __init__(self, facts, tables):
        refuse_counts(facts, tables)
        refuse_names(facts, tables)
        refuse_domains(facts, tables)
        refuse_rings(tables)
        self.facts = [(name, domain) for name, domain in facts]
        self.tables = list(tables)


def refuse_counts(facts, tables):
    if len(facts) > MOST_FACTS:
        raise TooMany("a book has at most 20 facts")
    if len(tables) > MOST_TABLES:
        raise TooMany("a book has at most 30 tables")


def refuse_names(facts, tables):
    for name, domain in facts:
        if not is_word(name):
            raise BadName(f"{name!r} is no word")
    names = [name for name, domain in facts] + [table.name for table in tables]
    if len(set(names)) < len(names):
        raise BadName("two names are alike")
    for table in tables:
        for name in table.names:
            if name not in names:
                raise BadName(f"{name!r} is no fact and no table")


def refuse_domains(facts, tables):
    due = dict(facts + [(table.name, table.outcome) for table in tables])
    for table in tables:
        for name, domain in zip(table.names, table.domains):
            if not alike(domain, due[name]):
                raise Unlike(f"the column {name!r} has another domain")


# Tables that ask none of those that are left are in no ring: where each one left asks such a one, there is a ring.
def refuse_rings(tables):
    left = tables
    while left:
        names = [table.name for table in left]
        waiting = [table for table in left if named_among(table, names)]
        if len(waiting) == len(left):
            raise Ring("a table asks itself")
        left = waiting


def named_among(table, names):
    return [name for name in table.names if name in names]


def table_of(book, name):
    for table in book.tables:
        if table.name == name:
            return table
    raise NoTable(f"there is no table {name!r}")


def asks(book, name):
    return named_among(table_of(book, name), [table.name for table in book.tables])


def order_of(book, name):
    order = []
    put_behind(book, name, order)
    return order


# No table asks itself, so this goes no deeper than there are tables.
def put_behind(book, name, order):
    for asked in asks(book, name):
        if asked not in order:
            put_behind(book, asked, order)
    order.append(name)


def tables_for(book, name):
    return [table_of(book, needed) for needed in order_of(book, name)]


def needs(book, name):
    columns = []
    for table in tables_for(book, name):
        columns.extend(table.names)
    return [fact for fact, domain in book.facts if fact in columns]
