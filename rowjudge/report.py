"""Reports in lines: what is found in each table of a book, and what goes from one book to another."""

from rowjudge.books import table_of
from rowjudge.cells import show_value
from rowjudge.finds import clashes, holes, idle
from rowjudge.forms import MOST_GRAIN, grain
from rowjudge.layers import table_bounds, table_marks
from rowjudge.reading import fields_text
from rowjudge.unfold import compared, needed_domains


def box_text(domains, box):
    return fields_text(domains, [[pair] for pair in box])


def verdict_text(outcome, verdict):
    if verdict[0] == "say":
        return "say " + show_value(outcome, verdict[1])
    return verdict[0]


def table_lines(table):
    head = "table " + table.name
    if grain(table_bounds(table), table_marks(table)) > MOST_GRAIN:
        return [head, "too fine"]
    hole_lines = ["hole " + box_text(table.domains, box) for box in holes(table)]
    clash_lines = [clash_line(table, box, rows) for box, rows in clashes(table)]
    idle_lines = ["idle " + str(k) for k in idle(table)]
    return [head] + hole_lines + clash_lines + idle_lines


def clash_line(table, box, rows):
    numbers = [str(k) for k in range(len(table.rows)) if rows >> k & 1]
    return "clash " + box_text(table.domains, box) + " by " + ", ".join(numbers)


def report(book):
    lines = []
    for table in book.tables:
        lines.extend(table_lines(table))
    return lines


def change_lines(book, other, name):
    domains = needed_domains(book, name)
    outcome = table_of(book, name).outcome
    return [change_line(domains, outcome, change) for change in compared(book, other, name)]


def change_line(domains, outcome, change):
    old = verdict_text(outcome, change[1])
    new = verdict_text(outcome, change[2])
    return box_text(domains, change[0]) + ": " + old + " to " + new
