"""Tables spread out: one row for each box of codes at which a form says something."""

from rowjudge.errors import Clash
from rowjudge.forms import boxes
from rowjudge.layers import verdict_form
from rowjudge.tables import Table
from rowjudge.ways import CLASH


def rows_of(form, deep):
    return [([[pair] for pair in box], leaf[1]) for box, leaf in boxes(form, deep) if leaf[0] == "say"]


def spread(table):
    return spread_form(table.name, table.names, table.domains, table.outcome, verdict_form(table))


def spread_form(name, names, domains, outcome, form):
    deep = len(names)
    refuse_clashes(form, deep)
    # There is a row for each box that says a code, so Table's own refusal comes just where TooMany is due.
    return Table(name, names, domains, outcome, "only", rows_of(form, deep))


def refuse_clashes(form, deep):
    for box, leaf in boxes(form, deep):
        if leaf == CLASH:
            raise Clash("the rows that fit clash at some codes")
