import copy
import itertools
import random
import unittest

from helpers import (
    AGE, ALL_AGES, ALL_HUES, CLASH, EVERYWHERE, FEE, FEE_ROWS, GRAINS_ABOVE_300, GRAINS_OF_300, GREAT, HUE, NONE, WAYS,
    BoxCase, RefusalCase, age_table, all_codes, fee_table, many_words, plain_bounds, plain_mask, plain_verdict,
    plain_without, rough_rows, rough_table, say, table_of_200_rows, table_of_grain, table_state, unlike_tables, wide_table,
    words_table,
)
from rowjudge.domains import Numbers, Words
from rowjudge.errors import TooFine, Unlike
from rowjudge.finds import changes, clashes, first_unlike, holes, idle, reason, same_everywhere, without_row
from rowjudge.forms import volume
from rowjudge.tables import Table, verdict, with_rows


def rough_pair(seed):
    # Two tables that can be compared; every third pair has rows in common, so that they often agree.
    one = rough_table(seed)
    chance = random.Random(seed + 5000)
    rows = rough_rows(chance, one.domains, one.outcome)
    if seed % 3 == 0:
        rows = one.rows + rows[:1]
    return one, Table("other", one.names, one.domains, one.outcome, chance.choice(WAYS), rows)


def plain_unlike(one, other):
    # All lists of codes at which the verdicts differ, the least first.
    return [codes for codes in all_codes(plain_bounds(one)) if plain_verdict(one, codes) != plain_verdict(other, codes)]


class FindCase(BoxCase):
    def assert_finds(self, told, table, plain):
        # told: pairs of a box and what is told of it; plain: what is due at codes, None where nothing is.
        self.assert_boxes([box for box, what in told], plain_bounds(table))
        found = {tuple(codes): what for box, what in told for codes in all_codes(box)}
        due = {tuple(codes): plain(codes) for codes in all_codes(plain_bounds(table)) if plain(codes) is not None}
        self.assertEqual(found, due)

    def assert_holes(self, table):
        told = [(box, True) for box in holes(table)]
        self.assert_finds(told, table, lambda codes: None if plain_mask(table.rows, codes) else True)

    def assert_clashes(self, table):
        def plain(codes):
            return plain_mask(table.rows, codes) if plain_verdict(table, codes) == CLASH else None

        self.assert_finds(clashes(table), table, plain)

    def assert_changes(self, one, other):
        def plain(codes):
            pair = (plain_verdict(one, codes), plain_verdict(other, codes))
            return None if pair[0] == pair[1] else pair

        self.assert_finds([(box, (old, new)) for box, old, new in changes(one, other)], one, plain)


class Holes(FindCase):
    def test_plain(self):
        told = holes(fee_table())
        self.assertEqual(sum([volume(box) for box in told]), 47 + 56)
        self.assert_holes(fee_table())
        self.assert_kinds(told, [((int, int), (int, int))])

    def test_one_column(self):
        self.assertEqual(holes(age_table("first", [([(5, 9), (20, 120)], 1)])), [((0, 4),), ((10, 19),)])

    def test_way_does_not_matter(self):
        for way in WAYS:
            self.assertEqual(holes(fee_table(way)), holes(fee_table()))

    def test_no_rows(self):
        self.assertEqual(holes(fee_table("first", [])), [((0, 120), (0, 2))])
        self.assertEqual(holes(Table("t", ["a"], [Numbers(7, 7)], FEE, "first", [])), [((7, 7),)])

    def test_rows_that_take_no_code(self):
        table = fee_table("first", [([[], []], 1), ([[(3, 9)], []], 1), ([[], ALL_HUES], 1)])
        self.assert_holes(table)
        self.assertEqual(sum([volume(box) for box in holes(table)]), 121 * 3)

    def test_none(self):
        for way in WAYS:
            self.assertEqual(holes(fee_table(way, [(EVERYWHERE, 1)])), [])
            self.assertEqual(holes(fee_table(way, [([[(0, 60)], ALL_HUES], 1), ([[(50, 120)], ALL_HUES], 2)])), [])

    def test_a_clash_is_no_hole(self):
        self.assertEqual(holes(fee_table("only", [(EVERYWHERE, 1)] * 2)), [])

    def test_at_the_bounds(self):
        wide = holes(wide_table())
        self.assert_boxes(wide, [(-GREAT, GREAT)] * 2)
        across = 2 * GREAT + 1
        taken = across + (GREAT + 1) * (GREAT - 6) + (across - 1) * 13
        self.assertEqual(sum([volume(box) for box in wide]), across * across - taken)
        self.assert_holes(words_table())
        self.assert_holes(table_of_200_rows())
        full = Table("t", many_words(4), [HUE, Words(["so"]), AGE, Words(many_words(40))], FEE, "first",
                     [([[(1, 1)], [(0, 0)], [(9, 9)], [(39, 39)]], 1)])
        self.assertEqual(sum([volume(box) for box in holes(full)]), 3 * 121 * 40 - 1)

    def test_code_by_code(self):
        for seed in range(150):
            self.assert_holes(rough_table(seed))


class Clashes(FindCase):
    def test_plain(self):
        told = clashes(fee_table("only"))
        self.assert_clashes(fee_table("only"))
        self.assertIn((((10, 17), (0, 0)), 0b11), told)
        self.assertEqual(sum([volume(box) for box, rows in told]), 20 + 16 + 47)
        self.assert_kinds(told, [(((int, int), (int, int)), int)])

    def test_one_column(self):
        rows = [([(0, 20)], 1), ([(10, 30)], 1), ([(15, 40)], 2)]
        self.assertEqual(clashes(age_table("only", rows)), [(((10, 14),), 3), (((15, 20),), 7), (((21, 30),), 6)])
        self.assertEqual(clashes(age_table("like", rows)), [(((15, 20),), 7), (((21, 30),), 6)])

    def test_neighbours_with_other_rows_are_not_one(self):
        rows = [([(0, 120)], 1), ([(0, 9)], 2), ([(10, 19)], 3)]
        self.assertEqual(clashes(age_table("like", rows)), [(((0, 9),), 3), (((10, 19),), 5)])

    def test_ways_that_never_clash(self):
        for way in ("first", "low", "high", "sum"):
            self.assertEqual(clashes(fee_table(way)), [])
            self.assertEqual(clashes(fee_table(way, [(EVERYWHERE, 1), (EVERYWHERE, 2)])), [])

    def test_same_codes(self):
        same = [(EVERYWHERE, 4)] * 2
        self.assertEqual(clashes(fee_table("only", same)), [(((0, 120), (0, 2)), 3)])
        self.assertEqual(clashes(fee_table("like", same)), [])

    def test_code_nought(self):
        self.assertEqual(clashes(age_table("only", [([(0, 120)], 0)] * 2)), [(((0, 120),), 3)])
        self.assertEqual(clashes(age_table("only", [([(0, 120)], 0)])), [])

    def test_holes_are_no_clashes(self):
        for way in WAYS:
            self.assertEqual(clashes(fee_table(way, [])), [])
            self.assertEqual(clashes(fee_table(way, [([[], []], 1)] * 2)), [])

    def test_at_the_bounds(self):
        for way in ("only", "like"):
            told = clashes(wide_table(way))
            self.assert_boxes([box for box, rows in told], [(-GREAT, GREAT)] * 2)
            self.assertIn((((-GREAT, -GREAT), (5, 5)), 7), told)
            self.assertEqual(sum([volume(box) for box, rows in told]), GREAT - 5 + 12 + GREAT + 1)
            self.assert_clashes(words_table(way))
            self.assert_clashes(table_of_200_rows(way))
        last = [([[]], 0)] * 198 + [([ALL_AGES[0:1]], 1), ([[(7, 7)]], 2)]
        self.assertEqual(clashes(Table("t", ["a"], [AGE], FEE, "like", last)), [(((7, 7),), 3 << 198)])

    def test_code_by_code(self):
        for seed in range(150):
            self.assert_clashes(rough_table(seed, ("only", "like")[seed % 2]))


class WithoutRow(RefusalCase):
    def test_each_row(self):
        for k in (0, 2, 4):
            table = fee_table("sum")
            told = without_row(table, k)
            self.assertIs(type(told), Table)
            rows = FEE_ROWS[:k] + FEE_ROWS[k + 1:]
            self.assertEqual(table_state(told), ("fee", ["age", "hue"], [AGE, HUE], FEE, "sum", rows))
            self.assertEqual(table_state(table), ("fee", ["age", "hue"], [AGE, HUE], FEE, "sum", FEE_ROWS))

    def test_the_only_row(self):
        self.assertEqual(without_row(fee_table("first", FEE_ROWS[:1]), 0).rows, [])

    def test_rows_that_are_alike(self):
        rows = [([[(0, 5)]], 1), ([[(0, 5)]], 1), ([[(0, 6)]], 1)]
        table = Table("t", ["a"], [AGE], FEE, "first", rows)
        self.assertEqual(without_row(table, 1).rows, [rows[0], rows[2]])
        self.assertEqual(without_row(table, 2).rows, rows[:2])

    def test_200_rows(self):
        table = age_table("first", [([(k % 121, 120)], k % 50) for k in range(200)])
        for k in (0, 100, 199):
            self.assertEqual(without_row(table, k).rows, table.rows[:k] + table.rows[k + 1:])

    def test_lists_of_its_own(self):
        table = fee_table()
        told = without_row(table, 1)
        told.rows[0][0][0].append((99, 99))
        told.rows[1][0].clear()
        told.rows.pop()
        told.names.append("more")
        told.domains.clear()
        self.assertEqual(table_state(table), ("fee", ["age", "hue"], [AGE, HUE], FEE, "first", FEE_ROWS))

    def test_no_grain_is_too_fine(self):
        for counts in GRAINS_ABOVE_300:
            table = table_of_grain(counts)
            self.assertEqual(without_row(table, 0).rows, table.rows[1:])


class ReasonAndIdle(RefusalCase):
    def assert_reasons(self, table):
        due = []
        for k in range(len(table.rows)):
            unlike = plain_unlike(table, plain_without(table, k))
            told = reason(table, k)
            self.assertEqual(told, unlike[0] if unlike else None, (table.rows, k))
            if told is None:
                due.append(k)
            else:
                self.assert_kinds(told, [int])
        told = idle(table)
        self.assertEqual(told, due)
        self.assert_kinds(told, [int])

    def test_plain(self):
        self.assertEqual([reason(fee_table(), k) for k in range(5)], [[0, 0], [18, 0], [65, 1], None, [65, 2]])
        self.assertEqual([reason(fee_table("only"), k) for k in range(5)], [[0, 0], [10, 0], [0, 1], None, [0, 2]])
        self.assertEqual(idle(fee_table()), [3])
        self.assert_reasons(fee_table("like"))

    def test_hidden_row(self):
        table = age_table("first", [([(0, 50)], 1), ([(10, 20)], 2), ([(40, 60)], 3)])
        self.assertEqual([reason(table, k) for k in range(3)], [[0], None, [51]])
        self.assertEqual(idle(table), [1])

    def test_rows_that_are_alike(self):
        rows = [([(10, 20)], 4)] * 2
        for way in ("first", "like", "low", "high"):
            self.assertEqual(idle(age_table(way, rows)), [0, 1])
            self.assertEqual([reason(age_table(way, rows), k) for k in (0, 1)], [None, None])
        for way in ("only", "sum"):
            self.assertEqual(idle(age_table(way, rows)), [])
            self.assertEqual([reason(age_table(way, rows), k) for k in (0, 1)], [[10], [10]])

    def test_three_that_clash(self):
        # Two of them clash still, so none of the three counts by itself.
        self.assertEqual(idle(age_table("only", [([(0, 120)], 1)] * 3)), [0, 1, 2])
        self.assertEqual(idle(age_table("only", [([(0, 120)], 1)] * 2)), [])
        self.assertEqual(idle(age_table("like", [([(0, 120)], code) for code in (1, 2, 2)])), [1, 2])

    def test_sum_at_the_ends_of_the_outcome(self):
        self.assertEqual(idle(age_table("sum", [([(0, 120)], 50), ([(3, 5)], 7)])), [1])
        self.assertEqual(idle(age_table("sum", [([(0, 120)], 0), ([(3, 5)], 0)])), [1])
        self.assertEqual(idle(age_table("sum", [([(0, 120)], 50), ([(3, 5)], -7)])), [])
        self.assertEqual(reason(age_table("sum", [([(0, 120)], 50), ([(3, 5)], -7)]), 1), [3])

    def test_low_and_high(self):
        rows = [([(0, 50)], 1), ([(40, 60)], 2)]
        self.assertEqual([reason(age_table("low", rows), k) for k in (0, 1)], [[0], [51]])
        self.assertEqual([reason(age_table("high", rows), k) for k in (0, 1)], [[0], [40]])

    def test_none_and_a_code_of_nought_are_not_the_same(self):
        self.assertEqual(reason(age_table("first", [([(7, 7)], 0)]), 0), [7])

    def test_no_rows(self):
        for way in WAYS:
            self.assertEqual(idle(fee_table(way, [])), [])

    def test_rows_that_take_no_code(self):
        for way in WAYS:
            table = fee_table(way, [([[], []], 1), (EVERYWHERE, 2), ([[(4, 5)], []], 3)])
            self.assertEqual(idle(table), [0, 2])
            self.assertEqual([reason(table, k) for k in range(3)], [None, [0, 0], None])

    def test_least_codes_not_least_of_each_column(self):
        rows = [([[(5, 9)], [(2, 2)]], 1), ([[(0, 4)], [(1, 2)]], 1)]
        self.assertEqual([reason(fee_table("first", rows), k) for k in (0, 1)], [[5, 2], [0, 1]])
        rows = [([[(3, 20), (40, 50)], [(0, 2)]], 1), ([[(0, 39)], [(0, 1)]], 1), ([[(0, 15)], ALL_HUES], 1)]
        self.assertEqual(reason(fee_table("like", rows), 0), [16, 2])

    def test_at_the_bounds(self):
        self.assertEqual([reason(wide_table("sum"), k) for k in range(3)], [[-GREAT, -GREAT], [-GREAT, 5], [-GREAT, 5]])
        self.assertEqual([reason(wide_table("first"), k) for k in range(3)], [[-GREAT, -GREAT], [-GREAT + 1, 5], [-GREAT + 1, -7]])
        self.assertEqual(idle(wide_table("low")), [])
        table = words_table()
        self.assertEqual([reason(table, k) for k in range(3)], [[0, 0], [0, 3], [0, 20]])
        one = Table("t", ["a"], [Words(["so"])], HUE, "high", [([[(0, 0)]], 1), ([[(0, 0)]], 2)])
        self.assertEqual([reason(one, k) for k in (0, 1)], [None, [0]])
        full = Table("t", many_words(4), [HUE] * 4, FEE, "first", [([[(0, 1)]] * 4, 1), ([[(1, 2)]] * 4, 1)])
        self.assertEqual([reason(full, k) for k in (0, 1)], [[0, 0, 0, 0], [1, 1, 1, 2]])

    def test_200_rows(self):
        for way in WAYS:
            table = table_of_200_rows(way)
            told = idle(table)
            verdicts = [plain_verdict(table, codes) for codes in all_codes([(0, 29), (0, 9)])]
            for k in (0, 1, 20, 99, 180, 198, 199):
                lesser = plain_without(table, k)
                judged = zip(all_codes([(0, 29), (0, 9)]), verdicts)
                places = [codes for codes, due in judged if plain_verdict(lesser, codes) != due]
                self.assertEqual(reason(table, k), places[0] if places else None)
                self.assertEqual(k in told, not places)
        alike = age_table("first", [([(0, 120)], 1)] * 200)
        self.assertEqual(idle(alike), list(range(200)))
        self.assertEqual(idle(age_table("sum", [([(k % 121, k % 121)], 1) for k in range(200)])), [])

    def test_code_by_code(self):
        for seed in range(120):
            self.assert_reasons(rough_table(seed, WAYS[seed % 6]))


class TwoTables(FindCase):
    def test_plain(self):
        one = age_table("first", [([(0, 50)], 1), ([(40, 60)], 2)])
        other = age_table("only", [([(0, 50)], 1), ([(40, 60)], 2)])
        self.assertEqual(first_unlike(one, other), [40])
        self.assertIs(same_everywhere(one, other), False)
        told = changes(one, other)
        self.assertEqual(told, [(((40, 50),), say(1), CLASH)])
        self.assert_kinds(told, [(((int, int),), (str, int), (str, int))])
        self.assertEqual(changes(other, one), [(((40, 50),), CLASH, say(1))])

    def test_old_and_new(self):
        one = age_table("first", [([(0, 9)], 1), ([(10, 19)], 2), ([(30, 39)], 3)])
        other = age_table("first", [([(0, 4)], 1), ([(5, 19)], 2), ([(20, 39)], 3)])
        self.assertEqual(changes(one, other), [(((5, 9),), say(1), say(2)), (((20, 29),), NONE, say(3))])
        self.assertEqual(changes(other, one), [(((5, 9),), say(2), say(1)), (((20, 29),), say(3), NONE)])

    def test_same_verdicts(self):
        for way in WAYS:
            one = fee_table(way, [([[(10, 30)], ALL_HUES], 5)])
            other = fee_table(way, [([[(10, 19)], ALL_HUES], 5), ([[(20, 30)], ALL_HUES], 5), ([[], []], 1)])
            for pair in ((one, other), (other, one), (one, one)):
                self.assertIsNone(first_unlike(*pair))
                self.assertIs(same_everywhere(*pair), True)
                self.assertEqual(changes(*pair), [])

    def test_names_and_ways_may_differ(self):
        rows = [([[(0, 50)], ALL_HUES], 3), ([[(51, 120)], [(0, 1)]], 4)]
        for way in WAYS:
            other = Table("other", ["x", "y"], [Numbers(0, 120), Words(["red", "green", "blue"])], Numbers(-50, 50), way, rows)
            self.assertIs(same_everywhere(fee_table("first", rows), other), True)
            self.assertIs(same_everywhere(fee_table("first", rows[:1]), other), False)

    def test_words_as_outcome(self):
        one = Table("t", ["a"], [AGE], HUE, "first", [([[(0, 9)]], 0)])
        other = Table("t", ["a"], [AGE], Words(["red", "green", "blue"]), "high", [([[(0, 9)]], 2)])
        self.assertEqual(changes(one, other), [(((0, 9),), say(0), say(2))])

    def test_none_and_a_code_of_nought_are_not_the_same(self):
        self.assertEqual(changes(age_table("first", []), age_table("first", [([(0, 120)], 0)])), [(((0, 120),), NONE, say(0))])
        self.assertEqual(changes(age_table("only", [([(0, 120)], 0)] * 2), age_table("only", [])), [(((0, 120),), CLASH, NONE)])

    def test_no_rows(self):
        self.assertIs(same_everywhere(fee_table("first", []), fee_table("sum", [])), True)
        self.assertEqual(first_unlike(fee_table("first", []), fee_table()), [0, 0])
        self.assertIs(same_everywhere(fee_table("first", [([[], []], 1)]), fee_table("sum", [])), True)

    def test_least_codes(self):
        one = fee_table("first", [(EVERYWHERE, 1)])
        rows = [([[(7, 9)], [(0, 0)]], 2), ([[(5, 9)], [(2, 2)]], 2), ([[(6, 8)], [(1, 1)]], 3)]
        self.assertEqual(first_unlike(one, fee_table("first", rows + [(EVERYWHERE, 1)])), [5, 2])
        self.assertEqual(first_unlike(one, fee_table("first", rows[::2] + [(EVERYWHERE, 1)])), [6, 1])
        self.assertEqual(first_unlike(one, fee_table("first", rows[:1] + [(EVERYWHERE, 1)])), [7, 0])

    def test_at_the_bounds(self):
        one = wide_table("sum")
        other = with_rows(one, one.rows[:2] + [([[(-GREAT, GREAT)], [(-7, 6)]], GREAT - 3)])
        self.assertEqual(first_unlike(one, other), [-GREAT, 6])
        told = changes(one, other)
        self.assert_boxes([box for box, old, new in told], [(-GREAT, GREAT)] * 2)
        self.assertEqual(sum([volume(box) for box, old, new in told]), 2 * GREAT + 1)
        for box, old, new in told:
            codes = [box[0][1], box[1][0]]
            self.assertEqual((old, new), (plain_verdict(one, codes), plain_verdict(other, codes)))
        self.assert_changes(words_table("first"), words_table("high"))
        self.assert_changes(table_of_200_rows("first"), table_of_200_rows("sum"))
        four = Table("t", many_words(4), [HUE] * 4, FEE, "first", [([[(0, 1)]] * 4, 1)])
        other = Table("t", many_words(4), [HUE] * 4, FEE, "first", [([[(0, 2)]] * 4, 1)])
        self.assertEqual(first_unlike(four, other), [0, 0, 0, 2])
        self.assertEqual(sum([volume(box) for box, old, new in changes(four, other)]), 81 - 16)
        single = Table("t", ["a"], [Words(["so"])], HUE, "first", [([[(0, 0)]], 1)])
        self.assertEqual(changes(single, with_rows(single, [])), [(((0, 0),), say(1), NONE)])

    def test_finer_together_than_each_by_itself(self):
        def table(way, shift):
            first = [(2 * k + shift, 2 * k + shift) for k in range(1, 8)]
            last = [(3 * k + shift, 3 * k + shift) for k in range(1, 10)]
            rows = [([first, [(0, 99)]], 1), ([[(0, 99)], last], 2)]
            return Table("t", ["a", "b"], [Numbers(0, 99)] * 2, Numbers(0, 9), way, rows)

        self.assert_changes(table("first", 0), table("high", 40))

    def test_code_by_code(self):
        for seed in range(150):
            one, other = rough_pair(seed)
            unlike = plain_unlike(one, other)
            told = first_unlike(one, other)
            self.assertEqual(told, unlike[0] if unlike else None)
            if unlike:
                self.assert_kinds(told, [int])
            self.assertIs(same_everywhere(one, other), not unlike)
            self.assert_changes(one, other)
            self.assert_changes(other, one)


class Refusals(RefusalCase):
    ONE_TABLE = (holes, clashes, idle)
    TWO_TABLES = (first_unlike, same_everywhere, changes)

    def test_grain_of_300(self):
        for counts in GRAINS_OF_300:
            table = table_of_grain(counts, "only")
            for call in self.ONE_TABLE:
                self.assertIs(type(call(table)), list)
            self.assertIsNotNone(reason(table, 0))
            self.assertIs(same_everywhere(table, table), True)
            self.assertIsNone(first_unlike(table, table))
            self.assertEqual(changes(table, table), [])

    def test_grain_above_300(self):
        for counts in GRAINS_ABOVE_300:
            table = table_of_grain(counts, "only")
            plain = with_rows(table, [])
            for call in self.ONE_TABLE:
                self.assert_refused(TooFine, call, table)
            for k in (0, len(table.rows) - 1):
                self.assert_refused(TooFine, reason, table, k)
            for call in self.TWO_TABLES:
                self.assert_refused(TooFine, call, table, plain)
                self.assert_refused(TooFine, call, plain, table)
                self.assert_refused(TooFine, call, table, table)

    def test_reason_goes_by_the_table_with_the_row(self):
        # Without the last row it would not be too fine.
        table = table_of_grain([150, 2])
        finer = with_rows(table, table.rows + [([[(300, 300)], [(0, 500)]], 1)])
        self.assertEqual(reason(table, 0), [1, 0])
        self.assert_refused(TooFine, reason, finer, len(finer.rows) - 1)
        self.assertIsNotNone(reason(without_row(finer, len(finer.rows) - 1), 0))

    def test_unlike(self):
        for rows in ([], FEE_ROWS):
            for other in unlike_tables(rows):
                for call in self.TWO_TABLES:
                    self.assert_refused(Unlike, call, fee_table("first", rows), other)
                    self.assert_refused(Unlike, call, other, fee_table("first", rows))

    def test_columns_in_another_order(self):
        turned = Table("fee", ["hue", "age"], [HUE, AGE], FEE, "first", [])
        for call in self.TWO_TABLES:
            self.assert_refused(Unlike, call, fee_table(), turned)

    def test_number_of_columns_where_all_domains_are_alike(self):
        tables = [Table("t", many_words(count), [AGE] * count, AGE, "first", []) for count in (1, 2, 3, 4)]
        for one, other in itertools.permutations(tables, 2):
            for call in self.TWO_TABLES:
                self.assert_refused(Unlike, call, one, other)

    def test_outcomes_of_words(self):
        def table(outcome):
            return Table("t", ["age"], [AGE], outcome, "first", [([ALL_AGES], 1)])

        for call in self.TWO_TABLES:
            for outcome in (Words(["red", "green"]), Words(["green", "red", "blue"]), Numbers(0, 2)):
                self.assert_refused(Unlike, call, table(HUE), table(outcome))

    def test_unlike_ahead_of_too_fine(self):
        fine = [([[(2 * k, 2 * k) for k in range(1, 55)], [(1, 1)]], 1)]
        self.assert_refused(TooFine, same_everywhere, fee_table("first", fine), fee_table("first", fine))
        for rows in ([], fine):
            for other in unlike_tables(fine):
                for call in self.TWO_TABLES:
                    self.assert_refused(Unlike, call, fee_table("first", rows), other)
                    self.assert_refused(Unlike, call, other, fee_table("first", rows))


class NothingIsChanged(RefusalCase):
    def test_one_table(self):
        for call in (holes, clashes, idle, lambda table: reason(table, 1), lambda table: without_row(table, 1).rows):
            table = fee_table("only")
            told = call(table)
            kept = copy.deepcopy(told)
            told.clear()
            self.assertEqual(call(table), kept)
            self.assertEqual(table_state(table), ("fee", ["age", "hue"], [AGE, HUE], FEE, "only", FEE_ROWS))

    def test_two_tables(self):
        for call in (first_unlike, changes):
            one = fee_table("only")
            other = fee_table("sum", FEE_ROWS[1:])
            told = call(one, other)
            kept = copy.deepcopy(told)
            told.clear()
            self.assertEqual(call(one, other), kept)
            self.assertIs(same_everywhere(one, other), False)
            self.assertEqual(table_state(one), ("fee", ["age", "hue"], [AGE, HUE], FEE, "only", FEE_ROWS))
            self.assertEqual(table_state(other), ("fee", ["age", "hue"], [AGE, HUE], FEE, "sum", FEE_ROWS[1:]))


class TableAndItsIdleRows(RefusalCase):
    def test_verdict_stays_without_an_idle_row(self):
        for seed in range(60):
            table = rough_table(seed)
            for k in idle(table):
                lesser = without_row(table, k)
                self.assertIs(same_everywhere(table, lesser), True)
                for codes in itertools.islice(all_codes(plain_bounds(table)), 0, None, 3):
                    self.assertEqual(verdict(lesser, codes), verdict(table, codes))


if __name__ == "__main__":
    unittest.main()
