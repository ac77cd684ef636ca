"""Tables turned into others: with fewer rows, in two parts, one on another, or with their columns in another order."""

from rowjudge.errors import Unlike
from rowjudge.finds import judged_tiles, leans_on, refuse_unlike
from rowjudge.spans import both, either, meet, without
from rowjudge.tables import Table, with_rows

# In these ways a row that fits counts by itself, also where another one says the same.
COUNTING_WAYS = ("only", "sum")


def thinned(table):
    tiles = judged_tiles(table)
    kept = list(range(len(table.rows)))
    needed = [None for k in kept]
    found = last_idle(table, tiles, kept, needed)
    while found is not None:
        kept.remove(found)
        # An idle row changes no verdict, so the tiles keep theirs.
        tiles = [(box, rows & ~(1 << found), told) for box, rows, told in tiles]
        found = last_idle(table, tiles, kept, needed)
    return with_rows(table, [table.rows[k] for k in kept])


# `needed` tells for each row the place of a tile that was seen to lean on it; it is brought up to date.
def last_idle(table, tiles, kept, needed):
    for k in reversed(kept):
        needed[k] = leaning_tile(table, tiles, k, needed[k])
        if needed[k] is None:
            return k
    return None


# A tile that leaned on the row before mostly does so still: looked at first, it spares going through all tiles.
def leaning_tile(table, tiles, k, before):
    if before is not None and leans_on(table, tiles[before], k):
        return before
    for place, tile in enumerate(tiles):
        if leans_on(table, tile, k):
            return place
    return None


def knit(table):
    rows = table.rows
    fewer = joined_once(rows, table.way)
    while fewer is not None:
        rows = fewer
        fewer = joined_once(rows, table.way)
    return with_rows(table, rows)


# The rows with the first two that can be joined made one, or None where none can.
def joined_once(rows, way):
    for k in range(len(rows) - 1):
        column = joint(rows[k], rows[k + 1], way)
        if column is not None:
            return rows[:k] + [joined_row(rows[k], rows[k + 1], column)] + rows[k + 2:]
    return None


# The first column in which the two rows can be joined, or None.
def joint(row, behind, way):
    if row[1] != behind[1]:
        return None
    for column in range(len(row[0])):
        if alike_beside(row[0], behind[0], column) and may_join(row[0][column], behind[0][column], way):
            return column
    return None


def alike_beside(cells, others, column):
    return cells[:column] == others[:column] and cells[column + 1:] == others[column + 1:]


def may_join(spans, others, way):
    return way not in COUNTING_WAYS or not meet(spans, others)


def joined_row(row, behind, column):
    return (with_cell(row[0], column, either(row[0][column], behind[0][column])), row[1])


def with_cell(cells, column, spans):
    return cells[:column] + [spans] + cells[column + 1:]


def apart(table):
    for k, row in enumerate(table.rows):
        for ahead in table.rows[:k]:
            if fit_together(row[0], ahead[0]):
                return False
    return True


def fit_together(cells, others):
    for spans, other in zip(cells, others):
        if not meet(spans, other):
            return False
    return True


def parted(table, column, spans):
    inside = narrowed(table, column, lambda own: both(own, spans))
    outside = narrowed(table, column, lambda own: without(own, spans))
    return (inside, outside)


def narrowed(table, column, narrow):
    rows = [(with_cell(cells, column, narrow(cells[column])), code) for cells, code in table.rows]
    return with_rows(table, [(cells, code) for cells, code in rows if cells[column]])


def stacked(one, other):
    if one.names != other.names or one.way != other.way:
        raise Unlike("the names of the columns or the ways are not alike")
    refuse_unlike(one, other)
    return with_rows(one, one.rows + other.rows)


def turned(table, order):
    names = [table.names[column] for column in order]
    domains = [table.domains[column] for column in order]
    rows = [([cells[column] for column in order], code) for cells, code in table.rows]
    return Table(table.name, names, domains, table.outcome, table.way, rows)
