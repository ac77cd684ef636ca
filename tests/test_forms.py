import copy
import itertools
import math
import random
import unittest

from helpers import GREAT, NONE, FormCase, RefusalCase, all_codes, say
from rowjudge.errors import TooFine
from rowjudge.forms import boxes, built, corner, grain, look, mapped, marks_of, paired, volume


def every_mark(bounds):
    return [list(range(low + 1, high + 1)) for low, high in bounds]


def cuts(count):
    return list(range(1, count + 1))


def plain_marks(bounds, leaf):
    # The plain reading of marks_of, code by code.
    marks = [set() for bound in bounds]
    for codes in all_codes(bounds):
        for column, (low, high) in enumerate(bounds):
            before = codes[:column] + [codes[column] - 1] + codes[column + 1:]
            if codes[column] > low and leaf(codes) != leaf(before):
                marks[column].add(codes[column])
    return [sorted(some) for some in marks]


def rough(seed, leaves):
    # A leaf for each list of codes, by chance, often the same for codes side by side.
    chance = random.Random(seed)
    wide = chance.randint(1, 2)
    kept = {}

    def leaf(codes):
        key = tuple(code // wide for code in codes)
        if key not in kept:
            kept[key] = chance.choice(leaves)
        return kept[key]

    return leaf


def rough_bounds(seed):
    chance = random.Random(seed)
    lows = [chance.randint(-3, 3) for column in range(chance.randint(1, 4))]
    return [(low, low + chance.randint(0, 3)) for low in lows]


NUMBER_LEAVES = [0, 1, 5, -2]
PAIR_LEAVES = [NONE, ("clash", 0), say(0), say(1), say(GREAT)]


def rough_cases(count):
    for seed in range(count):
        bounds = rough_bounds(seed)
        yield bounds, rough(seed, NUMBER_LEAVES if seed % 2 else PAIR_LEAVES)


class Grain(RefusalCase):
    def test_one_column(self):
        self.assertEqual(grain([(0, 9)], [[]]), 1)
        self.assertEqual(grain([(0, 9)], [[1]]), 2)
        self.assertEqual(grain([(0, 9)], [[9, 1, 5]]), 4)
        self.assertEqual(grain([(5, 5)], [[5, 6, 4]]), 1)

    def test_marks_twice_or_outside(self):
        self.assertEqual(grain([(0, 9)], [[3, 3, 3]]), 2)
        self.assertEqual(grain([(0, 9)], [[0, 10, -1, 99]]), 1)
        self.assertEqual(grain([(0, 9)], [[9, 10, 0, 1, 9]]), 3)

    def test_product(self):
        self.assertEqual(grain([(0, 9), (0, 9)], [[1], [2, 3]]), 6)
        self.assertEqual(grain([(0, 9), (0, 9), (-5, 5)], [[1], [], [2, 3, -4]]), 8)
        self.assertEqual(grain([(0, 9)] * 6, [[1]] * 6), 64)
        self.assertEqual(grain([(0, 999)] * 6, [cuts(400)] * 6), 401 ** 6)

    def test_60_figures(self):
        self.assertEqual(grain([(-GREAT, GREAT)], [[0, GREAT, -GREAT]]), 3)

    def test_nothing_is_changed(self):
        bounds = [(0, 9), (0, 9)]
        marks = [[3, 1, 3], [12, 2]]
        self.assert_kinds(grain(bounds, marks), int)
        built(bounds, marks, lambda codes: 0)
        self.assertEqual((bounds, marks), ([(0, 9), (0, 9)], [[3, 1, 3], [12, 2]]))


class Built(FormCase):
    def test_one_column(self):
        form = built([(0, 9)], [[3, 7]], lambda codes: codes[0])
        self.assertEqual(form, ((0, 2, 0), (3, 6, 3), (7, 9, 7)))

    def test_leaf_is_asked_at_the_lowest_codes_of_stretches(self):
        asked = []

        def leaf(codes):
            asked.append(list(codes))
            return len(asked)

        built([(0, 9), (-5, 5)], [[7, 3, 7, 99], [0]], leaf)
        self.assertEqual(sorted(asked), [[0, -5], [0, 0], [3, -5], [3, 0], [7, -5], [7, 0]])

    def test_neighbours_that_are_the_same_become_one(self):
        self.assertEqual(built([(0, 9)], [[3, 5, 7]], lambda codes: codes[0] // 4), ((0, 4, 0), (5, 9, 1)))
        self.assertEqual(built([(0, 9)], [cuts(9)], lambda codes: 8), ((0, 9, 8),))
        self.assertEqual(built([(0, 9)], [[3, 6]], lambda codes: codes[0] % 6), ((0, 2, 0), (3, 5, 3), (6, 9, 0)))

    def test_two_columns(self):
        form = built([(0, 9), (0, 4)], [[3, 6], [2]], lambda codes: say(max(codes[0] - 3, 0) * codes[1]))
        self.assertEqual(form, ((0, 5, ((0, 4, say(0)),)), (6, 9, ((0, 1, say(0)), (2, 4, say(6))))))

    def test_forms_beneath_that_become_the_same(self):
        form = built([(0, 9), (0, 9)], [[4], [2, 5]], lambda codes: codes[1] // 5)
        self.assertEqual(form, ((0, 9, ((0, 4, 0), (5, 9, 1))),))

    def test_leaves_of_both_kinds(self):
        self.assertEqual(built([(0, 3)], [[1, 2]], lambda codes: 0 if codes[0] else NONE), ((0, 0, NONE), (1, 3, 0)))
        self.assertEqual(built([(0, 3)], [[2]], lambda codes: ("say", codes[0])), ((0, 1, say(0)), (2, 3, say(2))))
        self.assertEqual(built([(0, 3)], [[2]], lambda codes: ("a", 0) if codes[0] else ("b", 0)), ((0, 1, ("b", 0)), (2, 3, ("a", 0))))

    def test_no_marks_and_one_code(self):
        self.assertEqual(built([(5, 5)], [[]], lambda codes: codes[0]), ((5, 5, 5),))
        self.assertEqual(built([(5, 9)], [[]], lambda codes: codes[0]), ((5, 9, 5),))
        self.assertEqual(built([(5, 9)], [[5, 10, 4]], lambda codes: codes[0]), ((5, 9, 5),))

    def test_leaf_has_a_list_of_its_own(self):
        kept = []

        def leaf(codes):
            self.assertIs(type(codes), list)
            told = sum(codes)
            kept.append((list(codes), codes))
            codes.append(99)
            codes[0] = -99
            return told

        bounds = [(0, 2), (0, 2), (0, 2)]
        form = built(bounds, every_mark(bounds), leaf)
        self.assert_tells(form, bounds, sum)
        self.assertEqual(len(kept), 27)
        self.assertEqual(len({id(codes) for before, codes in kept}), 27)
        for before, codes in kept:
            self.assertEqual(codes, [-99] + before[1:] + [99])

    def test_six_columns(self):
        bounds = [(0, 9), (-3, 3), (5, 5), (0, 2), (0, 1), (-9, 0)]
        marks = [[4], [0], [], [1, 2], [1], [-5, -2]]
        form = built(bounds, marks, sum)
        self.assert_form(form, bounds)
        self.assertEqual(look(form, [9, 3, 5, 2, 1, 0]), 4 + 0 + 5 + 2 + 1 - 2)
        self.assertEqual(look(form, [3, -1, 5, 1, 0, -6]), 0 - 3 + 5 + 1 + 0 - 9)

    def test_60_figures(self):
        form = built([(-GREAT, GREAT)], [[0, GREAT]], lambda codes: say(codes[0]))
        self.assertEqual(form, ((-GREAT, -1, say(-GREAT)), (0, GREAT - 1, say(0)), (GREAT, GREAT, say(GREAT))))

    def test_every_code(self):
        for bounds, leaf in rough_cases(60):
            self.assert_tells(built(bounds, every_mark(bounds), leaf), bounds, leaf)

    def test_same_function_same_form(self):
        chance = random.Random(4)
        for bounds, leaf in rough_cases(60):
            form = built(bounds, every_mark(bounds), leaf)
            needed = [some + some[:1] for some in plain_marks(bounds, leaf)]
            more = [some + [chance.randint(low, high + 1)] for some, (low, high) in zip(needed, bounds)]
            for marks in (needed, more):
                self.assertEqual(built(bounds, marks, leaf), form)

    def test_forms_are_the_same_just_where_all_leaves_are(self):
        bounds = [(0, 1), (3, 5)]
        places = all_codes(bounds)
        forms = {}
        for leaves in itertools.product([0, 1], repeat=len(places)):
            form = built(bounds, every_mark(bounds), lambda codes: leaves[places.index(codes)])
            self.assert_form(form, bounds)
            forms[form] = leaves
        self.assertEqual(len(forms), 2 ** len(places))


class GrainOf300(FormCase):
    AT_300 = [[299], [14, 19], [1, 1, 2, 4, 4, 0], [0, 149, 1], [299, 0, 0, 0]]
    ABOVE = [[300], [6, 42], [0, 300, 0], [1, 150], [1, 1, 2, 4, 4, 1], [150, 1], [2, 2, 2, 2, 2, 2]]

    def test_300(self):
        for counts in self.AT_300:
            bounds = [(0, 500)] * len(counts)
            marks = [cuts(count) for count in counts]
            self.assertEqual(grain(bounds, marks), 300)
            form = built(bounds, marks, sum)
            self.assert_form(form, bounds)
            self.assertEqual(look(form, [500] * len(counts)), sum(counts))

    def test_above_300(self):
        for counts in self.ABOVE:
            bounds = [(0, 500)] * len(counts)
            marks = [cuts(count) for count in counts]
            self.assertEqual(grain(bounds, marks), math.prod(count + 1 for count in counts))
            self.assertGreater(grain(bounds, marks), 300)
            self.assert_refused(TooFine, built, bounds, marks, sum)

    def test_301(self):
        self.assertEqual(grain([(0, 500)], [cuts(300)]), 301)
        self.assertEqual(grain([(0, 500)] * 2, [cuts(6), cuts(42)]), 301)

    def test_nothing_is_asked_above_300(self):
        asked = []

        def leaf(codes):
            asked.append(codes)
            return 0

        self.assert_refused(TooFine, built, [(0, 500)], [cuts(300)], leaf)
        self.assertEqual(asked, [])

    def test_only_different_marks_within_count(self):
        marks = [cuts(299) + [0, 501, 502, -1] + cuts(90)]
        self.assertEqual(len(built([(0, 500)], marks, lambda codes: codes[0])), 300)

    def test_grain_goes_by_stretches_not_by_leaves(self):
        self.assert_refused(TooFine, built, [(0, 500)], [cuts(300)], lambda codes: 0)


class Look(FormCase):
    FORM = ((-5, -1, ((0, 3, say(1)), (4, 9, say(2)))), (0, 0, ((0, 9, NONE),)), (1, 8, ((0, 0, say(2)), (1, 9, NONE))))

    def test_edges_of_triples(self):
        for codes, leaf in (([-5, 0], say(1)), ([-5, 3], say(1)), ([-5, 4], say(2)), ([-1, 9], say(2)), ([0, 0], NONE),
                            ([0, 9], NONE), ([1, 0], say(2)), ([1, 1], NONE), ([8, 0], say(2)), ([8, 9], NONE)):
            self.assertEqual(look(self.FORM, codes), leaf)

    def test_codes_stay(self):
        codes = [-5, 3]
        look(self.FORM, codes)
        self.assertEqual(codes, [-5, 3])

    def test_no_column(self):
        self.assertEqual(look(7, []), 7)
        self.assertEqual(look(("say", 3), []), ("say", 3))


class Mapped(FormCase):
    def test_what_becomes_the_same_is_put_together(self):
        form = ((0, 1, 10), (2, 5, 11), (6, 6, 20), (7, 9, 21))
        self.assertEqual(mapped(form, 1, lambda leaf: leaf // 10), ((0, 5, 1), (6, 9, 2)))
        self.assertEqual(mapped(form, 1, lambda leaf: 0), ((0, 9, 0),))
        self.assertEqual(mapped(form, 1, lambda leaf: leaf), form)

    def test_forms_beneath_that_become_the_same(self):
        form = ((0, 1, ((0, 4, 1), (5, 9, 2))), (2, 3, ((0, 4, 3), (5, 9, 4))), (4, 9, ((0, 9, 1),)))
        self.assertEqual(mapped(form, 2, lambda leaf: leaf % 2), ((0, 3, ((0, 4, 1), (5, 9, 0))), (4, 9, ((0, 9, 1),))))
        self.assertEqual(mapped(form, 2, lambda leaf: say(0)), ((0, 9, ((0, 9, say(0)),)),))

    def test_leaves_of_either_kind(self):
        form = ((0, 1, say(4)), (2, 5, NONE), (6, 6, say(5)))
        self.assertEqual(mapped(form, 1, lambda leaf: leaf[1]), ((0, 1, 4), (2, 5, 0), (6, 6, 5)))
        self.assertEqual(mapped(((0, 1, 4), (2, 3, 5)), 1, say), ((0, 1, say(4)), (2, 3, say(5))))

    def test_every_code(self):
        for bounds, leaf in rough_cases(60):
            form = built(bounds, every_mark(bounds), leaf)
            kept = copy.deepcopy(form)
            for change in (lambda leaf: say(1) if leaf in (0, 1, NONE) else NONE, lambda leaf: 7, lambda leaf: leaf):
                told = mapped(form, len(bounds), change)
                self.assert_tells(told, bounds, lambda codes: change(leaf(codes)))
                self.assertEqual(told, built(bounds, every_mark(bounds), lambda codes: change(leaf(codes))))
            self.assertEqual(form, kept)


class Paired(FormCase):
    def test_one_column(self):
        one = ((0, 3, 1), (4, 9, 2))
        other = ((0, 1, 10), (2, 6, 20), (7, 9, 30))
        self.assertEqual(paired(one, other, 1, lambda a, b: a + b), ((0, 1, 11), (2, 3, 21), (4, 6, 22), (7, 9, 32)))
        self.assertEqual(paired(other, one, 1, lambda a, b: a - b), ((0, 1, 9), (2, 3, 19), (4, 6, 18), (7, 9, 28)))
        self.assertEqual(paired(one, one, 1, lambda a, b: a * b), ((0, 3, 1), (4, 9, 4)))

    def test_what_becomes_the_same_is_put_together(self):
        one = ((0, 3, 1), (4, 9, 2))
        other = ((0, 3, 2), (4, 9, 1))
        self.assertEqual(paired(one, other, 1, lambda a, b: a + b), ((0, 9, 3),))
        self.assertEqual(paired(one, one, 1, lambda a, b: say(0) if a == b else NONE), ((0, 9, say(0)),))

    def test_ends_at_the_same_place(self):
        one = ((5, 5, 1), (6, 6, 2), (7, 7, 3))
        other = ((5, 6, 0), (7, 7, 1))
        self.assertEqual(paired(one, other, 1, lambda a, b: a * 10 + b), ((5, 5, 10), (6, 6, 20), (7, 7, 31)))
        self.assertEqual(paired(((5, 5, 1),), ((5, 5, 2),), 1, lambda a, b: say(a * 10 + b)), ((5, 5, say(12)),))

    def test_two_columns(self):
        one = ((0, 9, ((0, 4, say(1)), (5, 9, say(2)))),)
        other = ((0, 2, ((0, 9, NONE),)), (3, 9, ((0, 7, say(1)), (8, 9, NONE))))
        told = paired(one, other, 2, lambda a, b: 1 if a == b else 0)
        self.assertEqual(told, ((0, 2, ((0, 9, 0),)), (3, 9, ((0, 4, 1), (5, 9, 0)))))

    def test_every_code(self):
        for seed, (bounds, leaf) in enumerate(rough_cases(60)):
            second = rough(1000 + seed, NUMBER_LEAVES + PAIR_LEAVES)
            one = built(bounds, every_mark(bounds), leaf)
            other = built(bounds, every_mark(bounds), second)
            kept = copy.deepcopy((one, other))
            for pair in (lambda a, b: 1 if a == b else 0, lambda a, b: a, lambda a, b: b, lambda a, b: 7,
                         lambda a, b: ("two", 3 * (type(a) is int) + (type(b) is int))):
                told = paired(one, other, len(bounds), pair)
                self.assert_tells(told, bounds, lambda codes: pair(leaf(codes), second(codes)))
                self.assertEqual(told, built(bounds, every_mark(bounds), lambda codes: pair(leaf(codes), second(codes))))
            self.assertEqual((one, other), kept)

    def test_many_triples(self):
        bounds = [(0, 900)]
        one = built(bounds, [[3 * k for k in range(300)]], lambda codes: codes[0])
        other = built(bounds, [[3 * k + 1 for k in range(299)]], lambda codes: codes[0])
        told = paired(one, other, 1, lambda a, b: a * 1000 + b)
        self.assert_form(told, bounds)
        for code in range(901):
            self.assertEqual(look(told, [code]), look(one, [code]) * 1000 + look(other, [code]))


class Boxes(FormCase):
    def test_one_column(self):
        told = boxes(((0, 3, 1), (4, 9, 2)), 1)
        self.assertEqual(told, [(((0, 3),), 1), (((4, 9),), 2)])
        self.assert_kinds(told, [(((int, int),), int)])

    def test_two_columns(self):
        told = boxes(Look.FORM, 2)
        self.assertEqual(told, [
            (((-5, -1), (0, 3)), say(1)),
            (((-5, -1), (4, 9)), say(2)),
            (((0, 0), (0, 9)), NONE),
            (((1, 8), (0, 0)), say(2)),
            (((1, 8), (1, 9)), NONE),
        ])
        self.assert_kinds(told, [(((int, int), (int, int)), (str, int))])

    def test_leaf_that_is_a_pair_is_no_form(self):
        self.assertEqual(boxes(((0, 9, ("say", 4)),), 1), [(((0, 9),), ("say", 4))])

    def test_every_code(self):
        for bounds, leaf in rough_cases(60):
            form = built(bounds, every_mark(bounds), leaf)
            told = boxes(form, len(bounds))
            self.assertEqual([box for box, told_leaf in told], sorted([box for box, told_leaf in told]))
            found = {}
            for box, told_leaf in told:
                for codes in all_codes(box):
                    self.assertNotIn(tuple(codes), found)
                    found[tuple(codes)] = told_leaf
            self.assertEqual(found, {tuple(codes): leaf(codes) for codes in all_codes(bounds)})
            self.assertEqual(len(told), self.ways_down(form, len(bounds)))
            self.assertEqual(sum([volume(box) for box, told_leaf in told]), len(all_codes(bounds)))

    def ways_down(self, form, deep):
        return sum([self.ways_down(beneath, deep - 1) for low, high, beneath in form]) if deep else 1

    def test_told_anew_each_time(self):
        first = boxes(Look.FORM, 2)
        kept = list(first)
        first.clear()
        self.assertEqual(boxes(Look.FORM, 2), kept)


class MarksOf(FormCase):
    def test_one_column(self):
        self.assertEqual(marks_of(((0, 3, 1), (4, 8, 2), (9, 9, 1)), 1), [[4, 9]])
        self.assertEqual(marks_of(((0, 9, 1),), 1), [[]])
        self.assertEqual(marks_of(((-9, -5, say(1)), (-4, 9, NONE)), 1), [[-4]])

    def test_two_columns(self):
        told = marks_of(Look.FORM, 2)
        self.assertEqual(told, [[0, 1], [1, 4]])
        self.assert_kinds(told, [[int]])

    def test_marks_of_several_forms_beneath(self):
        form = ((0, 1, ((0, 4, 1), (5, 9, 2))), (2, 3, ((0, 1, 1), (2, 4, 2), (5, 9, 1))), (4, 4, ((0, 7, 1), (8, 9, 2))))
        self.assertEqual(marks_of(form, 2), [[2, 4], [2, 5, 8]])

    def test_column_that_counts_for_nothing(self):
        form = built([(0, 9), (0, 9), (0, 9)], [[5], [3], [7]], lambda codes: codes[1])
        self.assertEqual(marks_of(form, 3), [[], [3], []])

    def test_every_code(self):
        for bounds, leaf in rough_cases(60):
            form = built(bounds, every_mark(bounds), leaf)
            self.assertEqual(marks_of(form, len(bounds)), plain_marks(bounds, leaf))

    def test_six_columns(self):
        bounds = [(0, 1)] * 6
        form = built(bounds, [[1]] * 6, lambda codes: codes[0] * codes[2] + codes[5])
        self.assertEqual(marks_of(form, 6), [[1], [], [1], [], [], [1]])

    def test_built_again_from_them(self):
        for bounds, leaf in rough_cases(30):
            form = built(bounds, every_mark(bounds), leaf)
            self.assertEqual(built(bounds, marks_of(form, len(bounds)), leaf), form)

    def test_told_anew_each_time(self):
        first = marks_of(Look.FORM, 2)
        first[0].clear()
        first[1].append(9)
        self.assertEqual(marks_of(Look.FORM, 2), [[0, 1], [1, 4]])


class VolumeAndCorner(RefusalCase):
    def test_volume(self):
        for box, expected in ((((0, 0),), 1), (((0, 9),), 10), (((-3, 3),), 7), (((0, 9), (5, 5), (1, 2)), 20),
                              (((-GREAT, GREAT),) * 6, (2 * GREAT + 1) ** 6)):
            told = volume(box)
            self.assertEqual(told, expected)
            self.assertIs(type(told), int)

    def test_corner(self):
        for box, expected in ((((0, 0),), [0]), (((-3, 3), (5, 9)), [-3, 5]), (((-GREAT, GREAT), (7, 7), (0, 1)), [-GREAT, 7, 0])):
            told = corner(box)
            self.assertEqual(told, expected)
            self.assert_kinds(told, [int])

    def test_corner_is_the_least_of_the_codes(self):
        for bounds, leaf in rough_cases(20):
            self.assertEqual(corner(tuple(bounds)), min(all_codes(bounds)))
            self.assertEqual(volume(tuple(bounds)), len(all_codes(bounds)))


if __name__ == "__main__":
    unittest.main()
