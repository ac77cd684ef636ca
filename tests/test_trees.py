import copy
import itertools
import random
import unittest

from helpers import CLASH, GREAT, NONE, BoxCase, RefusalCase, all_codes, say
from rowjudge.forms import volume
from rowjudge.trees import leaves, path, price, questions, walk


def told(code):
    return ("say", say(code))


def ask(column, cut, below, above):
    return ("ask", column, cut, below, above)


LEAF = told(7)
SMALL = ask(0, 10, ask(1, 2, told(1), told(2)), ask(0, 20, ("say", NONE), ("say", CLASH)))
SMALL_BOUNDS = [(0, 30), (0, 4)]


def plain_walk(tree, codes):
    # Tells the verdict and the questions on the way, by the words of [6.1].
    asked = []
    while tree[0] == "ask":
        kind, column, cut, below, above = tree
        asked.append((column, cut, "below" if codes[column] < cut else "above"))
        tree = below if codes[column] < cut else above
    return tree[1], asked


def plain_ways(tree):
    # All ways down, each as the list of the columns asked on it, also those that no codes take.
    if tree[0] == "say":
        return [[]]
    return [[tree[1]] + way for side in tree[3:] for way in plain_ways(side)]


def says_of(tree, place=()):
    # The `say` parts in the order in which they are written, each by its place.
    if tree[0] == "say":
        return [place]
    return says_of(tree[3], place + ("below",)) + says_of(tree[4], place + ("above",))


def plain_leaves(tree, bounds):
    # Code by code: all codes that come to each `say`, in the order in which these are written.
    found = {}
    for codes in all_codes(bounds):
        verdict, asked = plain_walk(tree, codes)
        found.setdefault(tuple(side for column, cut, side in asked), (verdict, []))[1].append(tuple(codes))
    return [found[place] for place in says_of(tree) if place in found]


def rough_tree(chance, columns, deep):
    if deep == 0 or chance.random() < 0.15:
        return ("say", chance.choice([NONE, CLASH, say(0), say(1), say(2)]))
    return ask(chance.randrange(columns), chance.randint(-3, 8), rough_tree(chance, columns, deep - 1),
               rough_tree(chance, columns, deep - 1))


def rough_cases(count):
    for seed in range(count):
        chance = random.Random(seed)
        lows = [chance.randint(-2, 3) for column in range(chance.randint(1, 4))]
        yield rough_tree(chance, len(lows), chance.randint(0, 6)), [(low, low + chance.randint(0, 4)) for low in lows]


def chain(count, side, column=0):
    # `count` questions one beneath another, the cuts ascending down the side.
    tree = told(count)
    for k in reversed(range(count)):
        cut = k + 1 if side == "above" else count - k
        tree = ask(column, cut, told(k), tree) if side == "above" else ask(column, cut, tree, told(k))
    return tree


class Walk(RefusalCase):
    def test_plain(self):
        for codes, verdict in (([0, 0], say(1)), ([9, 1], say(1)), ([9, 2], say(2)), ([0, 4], say(2)), ([10, 0], NONE),
                               ([19, 4], NONE), ([20, 0], CLASH), ([30, 4], CLASH)):
            found = walk(SMALL, codes)
            self.assertEqual(found, verdict, codes)
            self.assert_kinds(found, (str, int))

    def test_say_alone(self):
        for verdict in (NONE, CLASH, say(0), say(-GREAT)):
            self.assertEqual(walk(("say", verdict), [5]), verdict)

    def test_the_cut_itself_goes_above(self):
        for cut in (-3, 0, 1, GREAT, -GREAT):
            tree = ask(0, cut, told(1), told(2))
            self.assertEqual([walk(tree, [cut + step]) for step in (-1, 0, 1)], [say(1), say(2), say(2)])

    def test_each_of_4_columns(self):
        for column in range(4):
            tree = ask(column, 5, told(1), told(2))
            for codes in itertools.product([4, 5], repeat=4):
                self.assertEqual(walk(tree, list(codes)), say(1 if codes[column] == 4 else 2))

    def test_60_questions(self):
        for side in ("below", "above"):
            tree = chain(60, side)
            for code in range(62):
                self.assertEqual(walk(tree, [code]), plain_walk(tree, [code])[0])
        self.assertEqual(walk(chain(60, "above"), [60]), say(60))
        self.assertEqual(walk(chain(60, "below"), [0]), say(60))

    def test_every_code(self):
        for tree, bounds in rough_cases(80):
            for codes in all_codes(bounds):
                verdict, asked = plain_walk(tree, codes)
                self.assertEqual(walk(tree, codes), verdict)
                self.assertEqual(path(tree, codes), asked)


class Path(RefusalCase):
    def test_plain(self):
        found = path(SMALL, [3, 2])
        self.assertEqual(found, [(0, 10, "below"), (1, 2, "above")])
        self.assert_kinds(found, [(int, int, str)])
        self.assertEqual(path(SMALL, [9, 1]), [(0, 10, "below"), (1, 2, "below")])
        self.assertEqual(path(SMALL, [10, 1]), [(0, 10, "above"), (0, 20, "below")])
        self.assertEqual(path(SMALL, [20, 1]), [(0, 10, "above"), (0, 20, "above")])

    def test_say_alone(self):
        self.assertEqual(path(LEAF, [5]), [])

    def test_asked_again(self):
        tree = ask(0, 5, ask(0, 5, told(1), told(2)), told(3))
        self.assertEqual(path(tree, [4]), [(0, 5, "below"), (0, 5, "below")])
        self.assertEqual(path(tree, [5]), [(0, 5, "above")])

    def test_60_questions(self):
        self.assertEqual(path(chain(60, "above"), [99]), [(0, k + 1, "above") for k in range(60)])
        self.assertEqual(path(chain(60, "below", 1), [0, -9]), [(1, 60 - k, "below") for k in range(60)])
        self.assertEqual(path(chain(60, "above"), [3]), [(0, 1, "above"), (0, 2, "above"), (0, 3, "above"), (0, 4, "below")])

    def test_60_figures(self):
        tree = ask(0, GREAT, ask(1, -GREAT, told(1), told(2)), told(3))
        self.assertEqual(path(tree, [GREAT - 1, -GREAT]), [(0, GREAT, "below"), (1, -GREAT, "above")])

    def test_told_anew_each_time(self):
        path(SMALL, [3, 2]).clear()
        self.assertEqual(path(SMALL, [3, 2]), [(0, 10, "below"), (1, 2, "above")])


class Leaves(BoxCase):
    def test_plain(self):
        found = leaves(SMALL, SMALL_BOUNDS)
        self.assertEqual(found, [
            (((0, 9), (0, 1)), say(1)), (((0, 9), (2, 4)), say(2)), (((10, 19), (0, 4)), NONE), (((20, 30), (0, 4)), CLASH),
        ])
        self.assert_kinds(found, [(((int, int), (int, int)), (str, int))])

    def test_say_alone(self):
        self.assertEqual(leaves(LEAF, [(3, 9)]), [(((3, 9),), say(7))])
        self.assertEqual(leaves(LEAF, [(0, 0), (1, 2), (-5, 5), (7, 7)]), [(((0, 0), (1, 2), (-5, 5), (7, 7)), say(7))])

    def test_cuts_at_the_bounds(self):
        for cut, expected in (
            (4, [(((5, 9),), say(2))]), (5, [(((5, 9),), say(2))]), (6, [(((5, 5),), say(1)), (((6, 9),), say(2))]),
            (9, [(((5, 8),), say(1)), (((9, 9),), say(2))]), (10, [(((5, 9),), say(1))]), (11, [(((5, 9),), say(1))]),
            (-GREAT, [(((5, 9),), say(2))]), (GREAT, [(((5, 9),), say(1))]),
        ):
            self.assertEqual(leaves(ask(0, cut, told(1), told(2)), [(5, 9)]), expected, cut)

    def test_one_code(self):
        self.assertEqual(leaves(ask(0, 5, told(1), told(2)), [(5, 5)]), [(((5, 5),), say(2))])
        self.assertEqual(leaves(ask(0, 6, told(1), told(2)), [(5, 5)]), [(((5, 5),), say(1))])

    def test_asked_again(self):
        # No code is below 5 and not below 8, so none comes to 2; nor to 3.
        tree = ask(0, 5, ask(0, 8, told(1), told(2)), ask(0, 4, told(3), told(4)))
        self.assertEqual(leaves(tree, [(0, 9)]), [(((0, 4),), say(1)), (((5, 9),), say(4))])
        tree = ask(0, 5, ask(0, 5, told(1), told(2)), ask(0, 5, told(3), told(4)))
        self.assertEqual(leaves(tree, [(0, 9)]), [(((0, 4),), say(1)), (((5, 9),), say(4))])

    def test_questions_beneath_a_side_to_which_none_come(self):
        tree = ask(0, 50, told(0), ask(1, 3, told(1), ask(0, 2, told(2), told(3))))
        self.assertEqual(leaves(tree, [(0, 9), (0, 9)]), [(((0, 9), (0, 9)), say(0))])

    def test_same_verdict_at_several(self):
        tree = ask(0, 5, told(1), ask(0, 7, told(1), told(1)))
        self.assertEqual(leaves(tree, [(0, 9)]), [(((0, 4),), say(1)), (((5, 6),), say(1)), (((7, 9),), say(1))])

    def test_below_ahead_of_above(self):
        # By the tree's order, not by that of the boxes.
        tree = ask(1, 3, ask(0, 5, told(1), told(2)), ask(0, 2, told(3), told(4)))
        self.assertEqual([box for box, verdict in leaves(tree, [(0, 9), (0, 9)])],
                         [((0, 4), (0, 2)), ((5, 9), (0, 2)), ((0, 1), (3, 9)), ((2, 9), (3, 9))])

    def test_60_questions(self):
        expected = [(((k, k),), say(k)) for k in range(60)] + [(((60, 99),), say(60))]
        self.assertEqual(leaves(chain(60, "above"), [(0, 99)]), expected)
        self.assertEqual(leaves(chain(60, "above"), [(30, 31)]), [(((30, 30),), say(30)), (((31, 31),), say(31))])
        self.assertEqual(len(leaves(chain(60, "below"), [(-5, 99)])), 61)
        tree = LEAF
        for k in range(60):
            tree = ask(k % 4, 5, tree, tree)
        self.assertEqual(len(leaves(tree, [(0, 9)] * 4)), 16)

    def test_60_figures(self):
        tree = ask(0, -GREAT + 1, told(1), ask(0, GREAT, told(2), told(3)))
        self.assertEqual(leaves(tree, [(-GREAT, GREAT)]),
                         [(((-GREAT, -GREAT),), say(1)), (((-GREAT + 1, GREAT - 1),), say(2)), (((GREAT, GREAT),), say(3))])

    def test_six_columns(self):
        tree = ask(5, 1, told(1), ask(2, 1, told(2), told(3)))
        found = leaves(tree, [(0, 1)] * 6)
        self.assertEqual([volume(box) for box, verdict in found], [32, 16, 16])
        self.assertEqual(found[1][0], ((0, 1), (0, 1), (0, 0), (0, 1), (0, 1), (1, 1)))

    def test_code_by_code(self):
        for tree, bounds in rough_cases(120):
            found = leaves(tree, bounds)
            self.assertIs(type(found), list)
            for box, verdict in found:
                self.assert_box(box, bounds)
            held = [(verdict, [tuple(codes) for codes in all_codes(box)]) for box, verdict in found]
            self.assertEqual(held, plain_leaves(tree, bounds))

    def test_all_codes_once_and_walk_comes_to_the_verdict(self):
        for tree, bounds in rough_cases(120):
            seen = {}
            for box, verdict in leaves(tree, bounds):
                for codes in all_codes(box):
                    self.assertNotIn(tuple(codes), seen)
                    seen[tuple(codes)] = verdict
                    self.assertEqual(walk(tree, codes), verdict)
            self.assertEqual(sorted(seen), [tuple(codes) for codes in all_codes(bounds)])

    def test_told_anew_each_time(self):
        kept = leaves(SMALL, SMALL_BOUNDS)
        leaves(SMALL, SMALL_BOUNDS).clear()
        self.assertEqual(leaves(SMALL, SMALL_BOUNDS), kept)


class Questions(RefusalCase):
    def test_plain(self):
        self.assertEqual(questions(SMALL), 3)
        self.assertIs(type(questions(SMALL)), int)
        self.assertEqual(questions(ask(0, 1, LEAF, LEAF)), 1)

    def test_say_alone(self):
        self.assertEqual(questions(LEAF), 0)
        self.assertIs(type(questions(LEAF)), int)

    def test_each_by_itself(self):
        one = ask(0, 5, told(1), told(2))
        self.assertEqual(questions(ask(0, 5, one, one)), 3)
        self.assertEqual(questions(ask(0, 5, one, told(1))), 2)
        self.assertEqual(questions(ask(0, 5, one, copy.deepcopy(one))), 3)
        self.assertEqual(questions(ask(0, 99, ask(0, 5, one, told(1)), one)), 4)

    def test_60_questions(self):
        self.assertEqual(questions(chain(60, "below")), 60)
        self.assertEqual(questions(chain(60, "above")), 60)

    def test_one_tree_on_both_sides_60_times(self):
        tree = LEAF
        for k in range(60):
            tree = ask(k % 3, k, tree, tree)
        self.assertEqual(questions(tree), 2 ** 60 - 1)
        self.assertEqual(price(tree), 60)
        self.assertEqual(price(tree, [1, 10, 10 ** 60]), 20 + 200 + 20 * 10 ** 60)

    def test_many_trees(self):
        for tree, bounds in rough_cases(80):
            self.assertEqual(questions(tree), len(says_of(tree)) - 1)


class Price(RefusalCase):
    def test_plain(self):
        self.assertEqual(price(SMALL, [3, 5]), 8)
        self.assertEqual(price(SMALL, [5, 3]), 10)
        self.assertEqual(price(SMALL), 2)
        self.assertIs(type(price(SMALL, [3, 5])), int)

    def test_say_alone(self):
        for prices in (None, [1], [10 ** 60]):
            self.assertEqual(price(LEAF, prices), 0)
        self.assertEqual(price(LEAF), 0)

    def test_none_stands_for_1_for_each(self):
        for tree, bounds in rough_cases(60):
            self.assertEqual(price(tree), price(tree, [1] * len(bounds)))
            self.assertEqual(price(tree, None), price(tree))

    def test_dearest_way_not_the_longest(self):
        tree = ask(0, 5, ask(0, 3, ask(0, 2, told(1), told(2)), told(3)), ask(1, 5, told(4), told(5)))
        self.assertEqual(price(tree), 3)
        self.assertEqual(price(tree, [1, 9]), 10)
        self.assertEqual(price(tree, [9, 1]), 27)

    def test_either_side(self):
        one = ask(1, 5, told(1), told(2))
        self.assertEqual(price(ask(0, 5, one, told(1)), [2, 3]), 5)
        self.assertEqual(price(ask(0, 5, told(1), one), [2, 3]), 5)

    def test_asked_again_costs_again(self):
        self.assertEqual(price(ask(0, 5, ask(0, 5, told(1), told(2)), told(3)), [7]), 14)

    def test_ways_that_no_codes_take_cost_too(self):
        self.assertEqual(price(ask(0, 5, ask(0, 9, told(1), ask(0, 12, told(2), told(3))), told(4)), [2]), 6)

    def test_10_to_the_60(self):
        most = 10 ** 60
        self.assertEqual(price(SMALL, [most, 1]), 2 * most)
        self.assertEqual(price(SMALL, [1, most]), most + 1)
        self.assertEqual(price(chain(60, "above"), [most]), 60 * most)
        self.assertEqual(price(chain(60, "below", 3), [1, 1, 1, most]), 60 * most)

    def test_columns_that_are_not_asked(self):
        self.assertEqual(price(ask(2, 5, told(1), told(2)), [100, 200, 3, 400]), 3)

    def test_all_ways_down(self):
        chance = random.Random(6)
        for tree, bounds in rough_cases(120):
            for prices in ([chance.randint(1, 9) for bound in bounds], [chance.randint(1, 10 ** 60) for bound in bounds]):
                kept = list(prices)
                due = max(sum(prices[column] for column in way) for way in plain_ways(tree))
                self.assertEqual(price(tree, prices), due)
                self.assertEqual(prices, kept)


class NothingIsChanged(RefusalCase):
    def test_what_is_handed_in(self):
        codes = [3, 2]
        bounds = list(SMALL_BOUNDS)
        prices = [4, 5]
        for turn in range(2):
            self.assertEqual(walk(SMALL, codes), say(2))
            self.assertEqual(path(SMALL, codes), [(0, 10, "below"), (1, 2, "above")])
            self.assertEqual(len(leaves(SMALL, bounds)), 4)
            self.assertEqual(price(SMALL, prices), 9)
        self.assertEqual((codes, bounds, prices), ([3, 2], [(0, 30), (0, 4)], [4, 5]))


if __name__ == "__main__":
    unittest.main()
