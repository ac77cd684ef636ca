"""A table of a book asked at facts: the tables that it asks are judged ahead of it, each once."""

from rowjudge.books import needs, tables_for
from rowjudge.errors import NoFact
from rowjudge.tables import judged, mask


def fact_codes(book, name, facts):
    domains = dict(book.facts)
    codes = {}
    for fact in needs(book, name):
        if fact not in facts:
            raise NoFact(f"the fact {fact!r} is missing")
        codes[fact] = domains[fact].code(facts[fact])
    return codes


def trail(book, name, facts):
    codes = fact_codes(book, name, facts)
    return steps(tables_for(book, name), codes)


def ask(book, name, facts):
    return trail(book, name, facts)[-1][3]


def ask_codes(book, name, codes):
    return last_verdict(tables_for(book, name), needs(book, name), codes)


def last_verdict(tables, facts, codes):
    return steps(tables, dict(zip(facts, codes)))[-1][3]


# The tables come in an order in which those that are asked stand ahead of those that ask them.
def steps(tables, codes):
    # A fact is like a table that always says its code: so a column need not be told apart.
    told = dict([(fact, ("say", code)) for fact, code in codes.items()])
    taken = []
    for table in tables:
        step = judged_step(table, [told[column] for column in table.names])
        told[table.name] = step[3]
        taken.append(step)
    return taken


def judged_step(table, columns):
    silent = [verdict for verdict in columns if verdict[0] != "say"]
    if silent:
        return (table.name, None, 0, silent[0])
    codes = [verdict[1] for verdict in columns]
    rows = mask(table, codes)
    return (table.name, codes, rows, judged(table, rows))
