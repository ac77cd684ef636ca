"""A table of a book unfolded: its verdict over all codes of the facts, with all the tables that it asks."""

from rowjudge.asking import last_verdict
from rowjudge.books import needs, table_of, tables_for
from rowjudge.errors import TooMany, Unlike
from rowjudge.finds import changed_boxes, refuse_unlike_domains
from rowjudge.forms import built, gathered
from rowjudge.layers import column_marks
from rowjudge.spreads import spread_form
from rowjudge.tables import MOST_COLUMNS

MOST_BOUNDS = 6


def book_bounds(book, name):
    return [(domain.low, domain.high) for domain in needed_domains(book, name)]


def needed_domains(book, name):
    needed = needs(book, name)
    return [domain for fact, domain in book.facts if fact in needed]


def book_marks(book, name):
    tables = tables_for(book, name)
    return [fact_marks(tables, fact) for fact in needs(book, name)]


def fact_marks(tables, fact):
    return gathered([column_marks(table, table.names.index(fact)) for table in tables if fact in table.names])


# No row of any of the tables has an edge within a stretch, so all its codes go the same way through all of them.
def book_form(book, name):
    facts = refuse_facts(book, name, MOST_BOUNDS)
    tables = tables_for(book, name)
    return built(book_bounds(book, name), book_marks(book, name), lambda codes: last_verdict(tables, facts, codes))


def refuse_facts(book, name, most):
    facts = needs(book, name)
    if len(facts) > most:
        raise TooMany(f"the table {name!r} needs more facts than can be unfolded")
    return facts


def flat(book, name):
    facts = refuse_facts(book, name, MOST_COLUMNS)
    outcome = table_of(book, name).outcome
    return spread_form(name, facts, needed_domains(book, name), outcome, book_form(book, name))


def compared(book, other, name):
    facts = needs(book, name)
    if facts != needs(other, name):
        raise Unlike(f"the table {name!r} does not need the same facts")
    refuse_unlike_domains(told_domains(book, name), told_domains(other, name))
    return changed_boxes(book_form(book, name), book_form(other, name), len(facts))


def told_domains(book, name):
    return needed_domains(book, name) + [table_of(book, name).outcome]
