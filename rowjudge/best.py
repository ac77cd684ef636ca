"""The cheapest trees of questions: that of a table, and what those of its blocks cost."""

from rowjudge.errors import TooFine
from rowjudge.forms import corner, look, marks_of
from rowjudge.layers import table_bounds, verdict_form
from rowjudge.spans import stretches
from rowjudge.trees import ASK, SAY, with_pair

MOST_BLOCKS = 600


def ledger(table, prices=None):
    return dict([(block, plan[0]) for block, plan in planned(table, prices).items()])


def best(table, prices=None):
    return planned(table, prices)[tuple(table_bounds(table))]


# For each block the pair of the least price and a tree of that price. Verdicts turn at marks alone, so a cut
# elsewhere can be moved to a mark and the tree tells the same: no other cuts are tried.
def planned(table, prices):
    bounds = table_bounds(table)
    form = verdict_form(table)
    marks = marks_of(form, len(bounds))
    refuse_blocks(marks)
    costs = [1 for bound in bounds] if prices is None else prices
    plans = {}
    for block in blocks_of(bounds, marks):
        plans[block] = plan_of(plans, block, marks, costs, form)
    return plans


def refuse_blocks(marks):
    product = 1
    for cuts in marks:
        product *= (len(cuts) + 1) * (len(cuts) + 2) // 2
    if product > MOST_BLOCKS:
        raise TooFine("there are more than 600 blocks")


def blocks_of(bounds, marks):
    blocks = [()]
    for bound, cuts in zip(bounds, marks):
        blocks = with_column(blocks, pairs_of(stretches(bound[0], bound[1], cuts)))
    return blocks


# The pairs of fewer stretches come first, so the parts into which a block can be cut stand ahead of it.
def pairs_of(parts):
    pairs = []
    for further in range(len(parts)):
        for first in range(len(parts) - further):
            pairs.append((parts[first][0], parts[first + further][1]))
    return pairs


def with_column(blocks, pairs):
    wider = []
    for block in blocks:
        for pair in pairs:
            wider.append(block + (pair,))
    return wider


def plan_of(plans, block, marks, costs, form):
    choices = []
    for column, cuts in enumerate(marks):
        for cut in cuts:
            if block[column][0] < cut <= block[column][1]:
                choices.append(plan_with(plans, block, column, cut, costs[column]))
    if not choices:
        return (0, (SAY, look(form, corner(block))))
    return min(choices, key=lambda plan: plan[0])


def plan_with(plans, block, column, cut, cost):
    below = plans[with_pair(block, column, (block[column][0], cut - 1))]
    above = plans[with_pair(block, column, (cut, block[column][1]))]
    # One tree does for both sides, so the question, which is never free, need not be asked.
    if below == above:
        return below
    return (cost + max(below[0], above[0]), (ASK, column, cut, below[1], above[1]))
