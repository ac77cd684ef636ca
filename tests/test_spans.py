import copy
import random
import unittest

from helpers import GREAT, spans_of
from rowjudge.spans import both, edges, either, holds, many, meet, stretches, tidy, without

FEW = 7


def numbers_of(pairs):
    return {number for low, high in pairs for number in range(low, high + 1)}


def small_sets():
    for bits in range(1 << FEW):
        yield {number - 3 for number in range(FEW) if bits >> number & 1}


def held_by_some(pairs, number):
    return any(low <= number <= high for low, high in pairs)


def near_ends(*lists):
    ends = {end for pairs in lists for pair in pairs for end in pair}
    return sorted({end + step for end in ends for step in (-1, 0, 1)})


def wide_pairs(seed, how_many, figures):
    # Pairs in no order, some of which overlap, touch, are alike or hold none.
    dice = random.Random(seed)
    top = 10 ** figures - 1
    pairs = []
    while len(pairs) < how_many:
        low = dice.randint(-top, top)
        high = min(top, low + dice.randint(-2, 2 * top // how_many))
        pairs.append((low, high))
        if len(pairs) < how_many and dice.random() < 0.2:
            pairs.append(dice.choice([(low, high), (high + 1, high + 1), (high + 2, high + 3), (high, low)]))
    dice.shuffle(pairs)
    return pairs


class SpansCase(unittest.TestCase):
    def assert_spans(self, told):
        self.assertIs(type(told), list)
        for pair in told:
            self.assertIs(type(pair), tuple)
            self.assertEqual(len(pair), 2)
            self.assertLessEqual(pair[0], pair[1])
        for ahead, behind in zip(told, told[1:]):
            self.assertGreaterEqual(behind[0], ahead[1] + 2)

    def assert_tells(self, told, asked):
        self.assert_spans(told)
        self.assertEqual(told, asked)

    def assert_untouched(self, call, *given):
        kept = copy.deepcopy(given)
        told = call(*given)
        self.assertEqual(given, kept)
        asked = copy.deepcopy(told)
        # What was told is changed behind the call: neither what was handed in nor what is told later follows.
        told.append("more")
        self.assertEqual(given, kept)
        self.assertEqual(call(*given), asked)
        again = call(*given)
        for one in given:
            if isinstance(one, list):
                one.clear()
        self.assertEqual(again, asked)


class Tidy(SpansCase):
    def test_none(self):
        self.assert_tells(tidy([]), [])

    def test_one(self):
        self.assert_tells(tidy([(3, 9)]), [(3, 9)])
        self.assert_tells(tidy([(3, 3)]), [(3, 3)])

    def test_any_order(self):
        self.assert_tells(tidy([(7, 8), (-5, -4), (1, 3)]), [(-5, -4), (1, 3), (7, 8)])

    def test_overlapping(self):
        self.assert_tells(tidy([(1, 5), (4, 9)]), [(1, 9)])
        self.assert_tells(tidy([(4, 9), (1, 5)]), [(1, 9)])
        self.assert_tells(tidy([(1, 9), (3, 4)]), [(1, 9)])
        self.assert_tells(tidy([(1, 9), (2, 3), (9, 12), (5, 6)]), [(1, 12)])

    def test_touching_is_joined_and_one_between_is_not(self):
        self.assert_tells(tidy([(1, 3), (4, 6)]), [(1, 6)])
        self.assert_tells(tidy([(4, 6), (1, 3)]), [(1, 6)])
        self.assert_tells(tidy([(1, 3), (5, 6)]), [(1, 3), (5, 6)])

    def test_alike(self):
        self.assert_tells(tidy([(2, 4), (2, 4), (2, 4)]), [(2, 4)])

    def test_first_above_second_holds_none(self):
        self.assert_tells(tidy([(4, 3)]), [])
        self.assert_tells(tidy([(9, -9), (1, 2), (4, 3)]), [(1, 2)])
        self.assert_tells(tidy([(1, 2), (3, 1), (4, 5)]), [(1, 2), (4, 5)])
        self.assert_tells(tidy([(1, 2), (2, 0), (3, -GREAT)]), [(1, 2)])

    def test_all_small_lists(self):
        pairs = [(low, high) for low in range(-2, 3) for high in range(-2, 3)]
        for one in pairs:
            for two in pairs:
                for three in pairs:
                    given = [one, two, three]
                    self.assert_tells(tidy(given), spans_of(numbers_of(given)))

    def test_400_pairs(self):
        for seed in range(20):
            given = wide_pairs(seed, 400, 3)
            self.assertEqual(len(given), 400)
            self.assert_tells(tidy(given), spans_of(numbers_of(given)))

    def test_400_pairs_apart_and_400_in_one(self):
        apart = [(3 * k, 3 * k + 1) for k in range(400)]
        self.assert_tells(tidy(apart[::-1]), apart)
        self.assert_tells(tidy([(2 * k, 2 * k + 1) for k in range(399, -1, -1)]), [(0, 799)])

    def test_60_figures(self):
        self.assert_tells(tidy([(GREAT, GREAT), (-GREAT, -GREAT)]), [(-GREAT, -GREAT), (GREAT, GREAT)])
        self.assert_tells(tidy([(GREAT - 1, GREAT), (-GREAT, GREAT - 2)]), [(-GREAT, GREAT)])
        self.assert_tells(tidy([(GREAT, -GREAT)]), [])
        for seed in range(5):
            given = wide_pairs(seed, 400, 60)
            told = tidy(given)
            self.assert_spans(told)
            for number in near_ends(given):
                self.assertIs(held_by_some(told, number), held_by_some(given, number))

    def test_lists_stay_as_they_were(self):
        self.assert_untouched(tidy, [(4, 9), (1, 5), (3, 2)])
        self.assert_untouched(tidy, [(1, 5), (7, 9)])
        self.assert_untouched(tidy, [])


class Holds(SpansCase):
    def test_empty(self):
        for number in (-GREAT, -1, 0, 1, GREAT):
            self.assertIs(holds([], number), False)

    def test_at_and_beside_each_end(self):
        spans = [(-9, -5), (-3, -3), (0, 4), (7, 8)]
        held = numbers_of(spans)
        for number in range(-12, 12):
            self.assertIs(holds(spans, number), number in held, number)

    def test_60_figures(self):
        spans = [(-GREAT, -GREAT), (-GREAT + 2, GREAT - 2), (GREAT, GREAT)]
        for number in (-GREAT, -GREAT + 2, 0, GREAT - 2, GREAT):
            self.assertIs(holds(spans, number), True)
        for number in (-GREAT + 1, GREAT - 1):
            self.assertIs(holds(spans, number), False)

    def test_400_pairs(self):
        spans = [(5 * k - 900, 5 * k - 898) for k in range(400)]
        held = numbers_of(spans)
        for number in range(-905, 1105):
            self.assertIs(holds(spans, number), number in held)

    def test_list_stays_as_it_was(self):
        spans = [(1, 2), (4, 5)]
        self.assertIs(holds(spans, 4), True)
        self.assertEqual(spans, [(1, 2), (4, 5)])


class TwoSets(SpansCase):
    def test_all_small_sets(self):
        for ones in small_sets():
            for others in small_sets():
                one = spans_of(ones)
                other = spans_of(others)
                self.assertEqual(either(one, other), spans_of(ones | others))
                self.assertEqual(both(one, other), spans_of(ones & others))
                self.assertEqual(without(one, other), spans_of(ones - others))
                self.assertIs(meet(one, other), len(ones & others) > 0)

    def test_empty(self):
        some = [(1, 3), (5, 5)]
        self.assert_tells(either([], []), [])
        self.assert_tells(either(some, []), some)
        self.assert_tells(either([], some), some)
        self.assert_tells(both([], []), [])
        self.assert_tells(both(some, []), [])
        self.assert_tells(both([], some), [])
        self.assert_tells(without([], []), [])
        self.assert_tells(without(some, []), some)
        self.assert_tells(without([], some), [])

    def test_either_joins_what_touches(self):
        self.assert_tells(either([(1, 3), (7, 9)], [(4, 6)]), [(1, 9)])
        self.assert_tells(either([(1, 3), (7, 9)], [(5, 5)]), [(1, 3), (5, 5), (7, 9)])

    def test_both_at_the_ends(self):
        self.assert_tells(both([(1, 5)], [(5, 9)]), [(5, 5)])
        self.assert_tells(both([(1, 5)], [(6, 9)]), [])
        self.assert_tells(both([(1, 9)], [(-4, 1), (3, 4), (9, 12)]), [(1, 1), (3, 4), (9, 9)])
        self.assertIs(meet([(1, 5)], [(5, 9)]), True)
        self.assertIs(meet([(1, 5)], [(6, 9)]), False)

    def test_without_at_the_ends(self):
        self.assert_tells(without([(1, 9)], [(1, 1), (9, 9)]), [(2, 8)])
        self.assert_tells(without([(1, 9)], [(0, 0), (10, 10)]), [(1, 9)])
        self.assert_tells(without([(1, 9)], [(5, 5)]), [(1, 4), (6, 9)])
        self.assert_tells(without([(1, 2), (8, 9)], [(-5, 1), (4, 6), (9, 20)]), [(2, 2), (8, 8)])
        self.assert_tells(without([(3, 5)], [(-9, -7), (-1, 1), (20, 30)]), [(3, 5)])

    def test_400_pairs(self):
        for seed in range(10):
            one = spans_of(random.Random(seed).sample(range(-700, 700), 600))[:400]
            other = spans_of(random.Random(seed + 99).sample(range(-700, 700), 700))[:400]
            ones = numbers_of(one)
            others = numbers_of(other)
            self.assert_tells(either(one, other), spans_of(ones | others))
            self.assert_tells(both(one, other), spans_of(ones & others))
            self.assert_tells(without(one, other), spans_of(ones - others))
            self.assertIs(meet(one, other), len(ones & others) > 0)

    def test_400_pairs_between_400_pairs(self):
        one = [(4 * k, 4 * k) for k in range(400)]
        other = [(4 * k + 2, 4 * k + 2) for k in range(400)]
        self.assert_tells(either(one, other), [(2 * k, 2 * k) for k in range(800)])
        self.assert_tells(both(one, other), [])
        self.assert_tells(without(one, other), one)
        self.assertIs(meet(one, other), False)
        self.assertIs(meet(one, other[:-1] + one[-1:]), True)

    def test_60_figures(self):
        everything = [(-GREAT, GREAT)]
        self.assert_tells(without(everything, [(0, 0)]), [(-GREAT, -1), (1, GREAT)])
        self.assert_tells(without(everything, [(-GREAT, -GREAT), (GREAT, GREAT)]), [(1 - GREAT, GREAT - 1)])
        self.assert_tells(without([(0, 0)], everything), [])
        for seed in range(5):
            one = spans_of_wide(seed)
            other = spans_of_wide(seed + 50)
            told = (either(one, other), both(one, other), without(one, other))
            for spans in told:
                self.assert_spans(spans)
            for number in near_ends(one, other):
                first = held_by_some(one, number)
                second = held_by_some(other, number)
                self.assertIs(held_by_some(told[0], number), first or second)
                self.assertIs(held_by_some(told[1], number), first and second)
                self.assertIs(held_by_some(told[2], number), first and not second)

    def test_lists_stay_as_they_were(self):
        for call in (either, both, without):
            self.assert_untouched(call, [(1, 5), (8, 9)], [(4, 8), (11, 12)])
            self.assert_untouched(call, [(1, 5)], [])
            self.assert_untouched(call, [], [(1, 5)])
            same = [(1, 5), (8, 9)]
            call(same, same).append((20, 21))
            self.assertEqual(same, [(1, 5), (8, 9)])


def spans_of_wide(seed):
    dice = random.Random(seed)
    ends = sorted(dice.randint(-GREAT, GREAT) for _ in range(400))
    return list(zip(ends[::2], ends[1::2]))


class Many(SpansCase):
    def test_small(self):
        self.assertEqual(many([]), 0)
        self.assertEqual(many([(5, 5)]), 1)
        self.assertEqual(many([(-5, 5)]), 11)
        for numbers in small_sets():
            self.assertEqual(many(spans_of(numbers)), len(numbers))

    def test_400_pairs_and_60_figures(self):
        self.assertEqual(many([(3 * k, 3 * k + 1) for k in range(400)]), 800)
        self.assertEqual(many([(-GREAT, GREAT)]), 2 * 10 ** 60 - 1)
        self.assertEqual(many([(-GREAT, -2), (0, 0), (2, GREAT)]), 2 * GREAT - 1)

    def test_list_stays_as_it_was(self):
        spans = [(1, 5), (8, 9)]
        self.assertEqual(many(spans), 7)
        self.assertEqual(spans, [(1, 5), (8, 9)])


class Edges(SpansCase):
    def test_all_small_sets_and_bounds(self):
        for numbers in small_sets():
            spans = spans_of(numbers)
            for low in range(-5, 6):
                for high in range(low, 6):
                    asked = [c for c in range(low + 1, high + 1) if (c - 1 in numbers) != (c in numbers)]
                    self.assertEqual(edges(spans, low, high), asked)

    def test_low_and_high_alike(self):
        for low in (4, 5, 6, 9, 10, 11):
            self.assertEqual(edges([(5, 9)], low, low), [])

    def test_at_low_and_at_high(self):
        self.assertEqual(edges([(5, 9)], 5, 10), [10])
        self.assertEqual(edges([(5, 9)], 4, 10), [5, 10])
        self.assertEqual(edges([(5, 9)], 4, 9), [5])
        self.assertEqual(edges([(5, 9)], 5, 9), [])
        self.assertEqual(edges([(5, 9)], 10, 20), [])
        self.assertEqual(edges([(5, 9)], 9, 20), [10])
        self.assertEqual(edges([(5, 9)], 0, 4), [])
        self.assertEqual(edges([(5, 9)], 0, 5), [5])

    def test_spans_with_one_number_between(self):
        self.assertEqual(edges([(1, 2), (4, 4)], 0, 9), [1, 3, 4, 5])

    def test_empty(self):
        told = edges([], -3, 3)
        self.assertEqual(told, [])
        self.assertIs(type(told), list)

    def test_400_pairs_and_60_figures(self):
        spans = [(3 * k, 3 * k + 1) for k in range(400)]
        asked = [end for low, high in spans for end in (low, high + 1)]
        self.assertEqual(edges(spans, -1, 1200), asked)
        self.assertEqual(edges(spans, 0, 1199), asked[1:])
        self.assertEqual(edges(spans, 0, 1198), asked[1:-1])
        self.assertEqual(edges([(-5, 5)], -GREAT, GREAT), [-5, 6])
        self.assertEqual(edges([(1 - GREAT, GREAT - 1)], -GREAT, GREAT), [1 - GREAT, GREAT])

    def test_list_stays_as_it_was(self):
        self.assert_untouched(lambda spans: edges(spans, 0, 20), [(1, 5), (8, 9)])
        self.assert_untouched(lambda spans: edges(spans, 0, 20), [])


class Stretches(SpansCase):
    def assert_cut(self, told, low, high, marks):
        self.assertIs(type(told), list)
        for pair in told:
            self.assertIs(type(pair), tuple)
        self.assertEqual(told[0][0], low)
        self.assertEqual(told[-1][1], high)
        for pair in told:
            self.assertLessEqual(pair[0], pair[1])
        for ahead, behind in zip(told, told[1:]):
            self.assertEqual(behind[0], ahead[1] + 1)
        self.assertEqual([pair[0] for pair in told[1:]], sorted({c for c in marks if low < c <= high}))

    def test_no_mark(self):
        self.assertEqual(stretches(2, 8, []), [(2, 8)])
        self.assertEqual(stretches(2, 2, []), [(2, 2)])

    def test_low_and_high_alike(self):
        self.assertEqual(stretches(4, 4, [3, 4, 5, 4]), [(4, 4)])

    def test_marks_at_the_ends(self):
        self.assertEqual(stretches(2, 8, [2]), [(2, 8)])
        self.assertEqual(stretches(2, 8, [3]), [(2, 2), (3, 8)])
        self.assertEqual(stretches(2, 8, [8]), [(2, 7), (8, 8)])
        self.assertEqual(stretches(2, 8, [9]), [(2, 8)])

    def test_marks_twice_outside_and_in_any_order(self):
        self.assertEqual(stretches(2, 8, [6, 4, 6, 4]), [(2, 3), (4, 5), (6, 8)])
        self.assertEqual(stretches(2, 8, [100, -100, 5, 1, 9]), [(2, 4), (5, 8)])
        self.assertEqual(stretches(-3, -1, [-1, -2, 0]), [(-3, -3), (-2, -2), (-1, -1)])

    def test_all_small_marks(self):
        for low in range(0, 4):
            for high in range(low, 4):
                for one in range(-2, 6):
                    for two in range(-2, 6):
                        for three in range(-2, 6):
                            marks = [one, two, three]
                            self.assert_cut(stretches(low, high, marks), low, high, marks)

    def test_400_marks(self):
        for seed in range(10):
            dice = random.Random(seed)
            marks = [dice.randint(-300, 300) for _ in range(400)]
            self.assert_cut(stretches(-250, 250, marks), -250, 250, marks)
        marks = list(range(400, 0, -1))
        self.assertEqual(stretches(0, 400, marks), [(k, k) for k in range(401)])

    def test_60_figures(self):
        marks = [GREAT, -GREAT, 0, 1 - GREAT, 0]
        asked = [(-GREAT, -GREAT), (1 - GREAT, -1), (0, GREAT - 1), (GREAT, GREAT)]
        self.assertEqual(stretches(-GREAT, GREAT, marks), asked)

    def test_marks_stay_as_they_were(self):
        self.assert_untouched(lambda marks: stretches(0, 9, marks), [7, 3, 7, 0, 20])
        self.assert_untouched(lambda marks: stretches(0, 9, marks), [])


if __name__ == "__main__":
    unittest.main()
