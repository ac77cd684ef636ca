"""Trees of questions: ("say", verdict), or ("ask", column, cut, below, above)."""

SAY = "say"
ASK = "ask"
BELOW = "below"
ABOVE = "above"


def walk(tree, codes):
    at = tree
    while at[0] != SAY:
        at = tree_on(at, side_of(at, codes))
    return at[1]


def path(tree, codes):
    asked = []
    at = tree
    while at[0] != SAY:
        side = side_of(at, codes)
        asked.append((at[1], at[2], side))
        at = tree_on(at, side)
    return asked


def side_of(tree, codes):
    return BELOW if codes[tree[1]] < tree[2] else ABOVE


def tree_on(tree, side):
    return tree[3] if side == BELOW else tree[4]


def leaves(tree, bounds):
    return leaves_within(tree, tuple(bounds))


# A side to which no codes of the box come is not gone down, so each box that is told holds some.
def leaves_within(tree, box):
    if tree[0] == SAY:
        return [(box, tree[1])]
    column = tree[1]
    cut = tree[2]
    low = box[column][0]
    high = box[column][1]
    told = []
    if low < cut:
        told.extend(leaves_within(tree[3], with_pair(box, column, (low, min(high, cut - 1)))))
    if cut <= high:
        told.extend(leaves_within(tree[4], with_pair(box, column, (max(low, cut), high))))
    return told


def with_pair(box, column, pair):
    return box[:column] + (pair,) + box[column + 1:]


def questions(tree):
    if tree[0] == SAY:
        return 0
    return 1 + sum(of_both_sides(tree, questions))


def price(tree, prices=None):
    if tree[0] == SAY:
        return 0
    own = 1 if prices is None else prices[tree[1]]
    return own + max(of_both_sides(tree, lambda side: price(side, prices)))


# A tree that hangs on both sides is gone through once: 60 such questions in a row have 2 ** 60 ways down.
def of_both_sides(tree, tell):
    below = tell(tree[3])
    return [below, below if tree[3] == tree[4] else tell(tree[4])]
