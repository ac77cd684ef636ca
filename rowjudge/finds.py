"""What is found over all codes: holes, clashes and idle rows of a table, and where two tables differ."""

from rowjudge.domains import alike
from rowjudge.errors import Unlike
from rowjudge.forms import boxes, corner, mapped, paired
from rowjudge.layers import row_form, tiling, verdict_form
from rowjudge.tables import judged, with_rows
from rowjudge.ways import CLASH

# The leaf at codes of which there is nothing to tell: a clash needs rows, so no mask that is told is 0.
NOTHING = 0


def holes(table):
    deep = len(table.domains)
    free = mapped(row_form(table), deep, lambda rows: 1 if rows == 0 else NOTHING)
    return [box for box, leaf in boxes_with_leaf(free, deep)]


def clashes(table):
    deep = len(table.domains)
    clashing = mapped(row_form(table), deep, lambda rows: rows if judged(table, rows) == CLASH else NOTHING)
    return boxes_with_leaf(clashing, deep)


def boxes_with_leaf(form, deep):
    return [(box, leaf) for box, leaf in boxes(form, deep) if leaf != NOTHING]


def without_row(table, k):
    return with_rows(table, table.rows[:k] + table.rows[k + 1:])


def reason(table, k):
    return reason_among(table, judged_tiles(table), k)


def idle(table):
    tiles = judged_tiles(table)
    return [k for k in range(len(table.rows)) if reason_among(table, tiles, k) is None]


def judged_tiles(table):
    return [(box, rows, judged(table, rows)) for box, rows in tiling(table)]


# The boxes of a form ascend, so the corner of the first one that is found is the least list of codes.
def reason_among(table, tiles, k):
    for tile in tiles:
        if leans_on(table, tile, k):
            return corner(tile[0])
    return None


def leans_on(table, tile, k):
    bit = 1 << k
    rows = tile[1]
    return (rows & bit) > 0 and judged(table, rows - bit) != tile[2]


def first_unlike(one, other):
    found = changes(one, other)
    return corner(found[0][0]) if found else None


def same_everywhere(one, other):
    return first_unlike(one, other) is None


def changes(one, other):
    refuse_unlike(one, other)
    return changed_boxes(verdict_form(one), verdict_form(other), len(one.domains))


# A leaf here is a pair of verdicts, wider than what an asker is told of forms; it stays within this def.
def changed_boxes(old, new, deep):
    differing = paired(old, new, deep, differing_pair)
    return [(box, told[0], told[1]) for box, told in boxes_with_leaf(differing, deep)]


def differing_pair(old, new):
    return NOTHING if old == new else (old, new)


def refuse_unlike(one, other):
    refuse_unlike_domains(one.domains + [one.outcome], other.domains + [other.outcome])


def refuse_unlike_domains(ones, others):
    if len(ones) != len(others):
        raise Unlike("one has more columns than the other")
    for one, other in zip(ones, others):
        if not alike(one, other):
            raise Unlike("two domains are not alike")
