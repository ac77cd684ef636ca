"""Tables in layers: the rows that fit and the verdict, told by one form for all codes at once."""

from rowjudge.forms import boxes, built, gathered, mapped
from rowjudge.spans import edges
from rowjudge.tables import judged, mask


def table_bounds(table):
    return [(domain.low, domain.high) for domain in table.domains]


def table_marks(table):
    return [column_marks(table, column) for column in range(len(table.domains))]


def column_marks(table, column):
    domain = table.domains[column]
    return gathered([edges(cells[column], domain.low, domain.high) for cells, code in table.rows])


# No row's spans have an edge within a stretch, so the rows that fit its lowest codes are those of all its codes.
def row_form(table):
    return built(table_bounds(table), table_marks(table), lambda codes: mask(table, codes))


def verdict_form(table):
    return mapped(row_form(table), len(table.domains), lambda rows: judged(table, rows))


def tiling(table):
    return boxes(row_form(table), len(table.domains))
