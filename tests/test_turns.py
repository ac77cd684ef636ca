import copy
import itertools
import random
import unittest

from helpers import (
    AGE, ALL_AGES, ALL_HUES, EVERYWHERE, FEE, FEE_ROWS, GRAINS_ABOVE_300, GRAINS_OF_300, GREAT, HUE, NONE, WAYS, TurnCase,
    age_table, all_codes, fee_table, held, many_words, plain_bounds, plain_mask, plain_verdict, plain_without,
    rough_table, say, spans_of, table_of_200_rows, table_of_grain, table_state, unlike_tables, wide_table, words_table,
)
from rowjudge.domains import Numbers, Words
from rowjudge.errors import TooFine, TooMany, Unlike
from rowjudge.finds import idle, same_everywhere, without_row
from rowjudge.tables import Table, verdict, with_rows
from rowjudge.turns import apart, knit, parted, stacked, thinned, turned

COUNTING = ("only", "sum")
OTHERS = ("first", "like", "low", "high")


def spans_rows(table):
    return [cells[0] for cells, code in table.rows]


def joinable_table(seed, way):
    # Few codes in each column, so that neighbouring rows can often be joined.
    chance = random.Random(seed)
    domains = [Numbers(0, chance.randint(0, 2)) for column in range(chance.randint(1, 4))]
    cells = [[spans_of([code for code in range(domain.high + 1) if chance.random() < 0.6]) for domain in domains]]
    rows = []
    for k in range(chance.randint(0, 12)):
        # Most rows differ from the one ahead in one column at most.
        column = chance.randrange(len(domains))
        new = spans_of([code for code in range(domains[column].high + 1) if chance.random() < 0.5])
        cells.append(cells[-1][:column] + [new] + cells[-1][column + 1:])
        rows.append((chance.choice(cells[-2:]), chance.choice([1, 1, 1, 2])))
    return Table("t", many_words(len(domains)), domains, Numbers(0, 5), way, rows)


def codes_of(spans):
    return {code for low, high in spans for code in range(low, high + 1)}


def plain_joined(table):
    # One joining by the words of [7.2], with sets of codes; None where none can be joined.
    for k in range(len(table.rows) - 1):
        (cells, code), (others, behind) = table.rows[k:k + 2]
        for column in range(len(cells)):
            one, other = codes_of(cells[column]), codes_of(others[column])
            same = all(cells[at] == others[at] for at in range(len(cells)) if at != column)
            if code == behind and same and not (table.way in COUNTING and one & other):
                new = [spans_of(one | other) if at == column else cells[at] for at in range(len(cells))]
                return with_rows(table, table.rows[:k] + [(new, code)] + table.rows[k + 2:])
    return None


def plain_knit(table):
    fewer = plain_joined(table)
    return plain_knit(fewer) if fewer else table


def plain_idle(table):
    bounds = plain_bounds(table)
    due = [plain_verdict(table, codes) for codes in all_codes(bounds)]
    lesser = [plain_without(table, k) for k in range(len(table.rows))]
    return [k for k, some in enumerate(lesser) if [plain_verdict(some, codes) for codes in all_codes(bounds)] == due]


def plain_thinned(table):
    found = plain_idle(table)
    return plain_thinned(plain_without(table, found[-1])) if found else table


class Thinned(TurnCase):
    def test_plain(self):
        told = thinned(fee_table())
        self.assert_head(told, fee_table())
        self.assertEqual(told.rows, FEE_ROWS[:3] + FEE_ROWS[4:])

    def test_the_last_idle_row_goes_first(self):
        # Each of the three is covered by the two others.
        rows = [([(0, 5)], 1), ([(3, 8)], 1), ([(0, 2), (6, 8)], 1)]
        for way in OTHERS:
            for order in itertools.permutations(rows):
                table = age_table(way, list(order))
                self.assertEqual(idle(table), [0, 1, 2])
                self.assertEqual(thinned(table).rows, table.rows[:2])

    def test_rows_that_are_alike(self):
        for way in OTHERS:
            self.assertEqual(len(thinned(age_table(way, [([(10, 20)], 4)] * 5)).rows), 1)
        self.assertEqual(len(thinned(age_table("sum", [([(10, 20)], 4)] * 5)).rows), 5)
        self.assertEqual(len(thinned(age_table("only", [([(10, 20)], 4)] * 5)).rows), 2)

    def test_first_keeps_what_stands_ahead(self):
        rows = [([(0, 50)], 1), ([(10, 20)], 2), ([(40, 60)], 1), ([(51, 60)], 3)]
        self.assertEqual(thinned(age_table("first", rows)).rows, [([[(0, 50)]], 1), ([[(40, 60)]], 1)])

    def test_only_keeps_the_clash(self):
        rows = [([(0, 9)], 1), ([(5, 9)], 1), ([(5, 9)], 2), ([(7, 7)], 3)]
        self.assertEqual(thinned(age_table("only", rows)).rows, [([[(0, 9)]], 1), ([[(5, 9)]], 1)])

    def test_a_row_further_down_becomes_idle(self):
        # The sum is 50, the outcome's high. The last row is idle only when the middle one has gone.
        rows = [([(0, 120)], 50), ([(0, 120)], -10), ([(0, 120)], 10)]
        self.assertEqual(idle(age_table("sum", rows)), [1])
        self.assertEqual(thinned(age_table("sum", rows)).rows, [([[(0, 120)]], 50)])

    def test_a_row_further_up_stays_then(self):
        # Both of the rows of 30 are idle by themselves, one of them is needed without the other.
        rows = [([(0, 120)], 30), ([(0, 120)], 30), ([(0, 120)], 20)]
        self.assertEqual(idle(age_table("sum", rows)), [0, 1, 2])
        self.assertEqual(thinned(age_table("sum", rows)).rows, [([[(0, 120)]], 30)] * 2)

    def test_no_rows(self):
        for way in WAYS:
            self.assertEqual(thinned(fee_table(way, [])).rows, [])

    def test_rows_that_take_no_code(self):
        for way in WAYS:
            table = fee_table(way, [([[], []], 1), (EVERYWHERE, 2), ([[(4, 5)], []], 3), ([[], ALL_HUES], 3)])
            self.assertEqual(thinned(table).rows, [(EVERYWHERE, 2)])
            self.assertEqual(thinned(with_rows(table, [table.rows[0]] * 3)).rows, [])

    def test_sum_of_nought_is_not_none(self):
        self.assertEqual(thinned(age_table("sum", [([(0, 120)], 0)] * 3)).rows, [([[(0, 120)]], 0)])

    def test_nothing_idle(self):
        for way in WAYS:
            rows = [([[(0, 17)], ALL_HUES], 1), ([[(18, 120)], [(0, 1)]], 2)]
            self.assertEqual(thinned(fee_table(way, rows)).rows, rows)

    def test_code_by_code(self):
        for seed in range(150):
            table = rough_table(seed, WAYS[seed % 6])
            told = thinned(table)
            self.assertEqual(told.rows, plain_thinned(table).rows)
            self.assert_same_verdicts(told, table)

    def test_rows_that_are_nearly_alike(self):
        for seed in range(150):
            table = joinable_table(seed, WAYS[seed % 6])
            self.assertEqual(thinned(table).rows, plain_thinned(table).rows)

    def test_sums_near_the_ends_of_the_outcome(self):
        # Here rows often become idle, or needed, by what goes.
        for seed in range(80):
            chance = random.Random(seed)
            rows = []
            for k in range(7):
                spans = spans_of([code for code in range(4) if chance.random() < 0.7])
                rows.append(([spans], chance.randint(-2, 2)))
            table = Table("t", ["a"], [Numbers(0, 3)], Numbers(-2, 2), "sum", rows)
            self.assertEqual(thinned(table).rows, plain_thinned(table).rows)

    def test_at_the_bounds(self):
        for way in WAYS:
            table = wide_table(way)
            twice = with_rows(table, table.rows + [([[(-GREAT, GREAT)], []], 0), ([[(1, GREAT - 1)], [(-7, 5)]], GREAT - 3)])
            told = thinned(twice)
            self.assertIs(same_everywhere(told, twice), True)
            self.assertEqual(idle(told), [])
        self.assertEqual(thinned(wide_table()).rows, wide_table().rows)
        self.assertEqual(thinned(words_table()).rows, words_table().rows)
        full = Table("t", many_words(4), [HUE] * 4, FEE, "first", [([[(0, 1)]] * 4, 1), ([[(1, 1)]] * 4, 2), ([[(1, 2)]] * 4, 1)])
        self.assertEqual(thinned(full).rows, [full.rows[0], full.rows[2]])
        one = Table("t", ["a"], [Words(["so"])], HUE, "high", [([[(0, 0)]], 1), ([[(0, 0)]], 2)])
        self.assertEqual(thinned(one).rows, [([[(0, 0)]], 2)])

    def test_200_rows(self):
        for way in WAYS:
            table = table_of_200_rows(way)
            told = thinned(table)
            self.assertEqual(idle(told), [])
            self.assertIs(same_everywhere(told, table), True)
            places = iter(table.rows)
            self.assertTrue(all(row in places for row in told.rows))
            self.assert_same_verdicts(told, table)
        self.assertEqual(len(thinned(age_table("first", [([(0, 120)], 1)] * 200)).rows), 1)
        self.assertEqual(len(thinned(age_table("only", [([(0, 120)], 1)] * 200)).rows), 2)
        apart_rows = [([(k % 121, k % 121)], 1) for k in range(200)]
        self.assertEqual(spans_rows(thinned(age_table("like", apart_rows))), [[(k, k)] for k in range(121)])

    def test_again_and_again_with_many_rows(self):
        for way in WAYS:
            table = table_of_200_rows(way)
            table = with_rows(table, table.rows[:35])
            due = table
            while idle(due):
                due = without_row(due, idle(due)[-1])
            self.assertEqual(thinned(table).rows, due.rows)

    def test_grain_of_300(self):
        for counts in GRAINS_OF_300:
            table = table_of_grain(counts, "only")
            told = thinned(with_rows(table, table.rows + [([[]] * len(counts), 1)]))
            self.assertEqual(told.rows, table.rows)

    def test_grain_above_300(self):
        for counts in GRAINS_ABOVE_300:
            for way in WAYS:
                self.assert_refused(TooFine, thinned, table_of_grain(counts, way))

    def test_grain_goes_by_the_table_as_it_is_handed_in(self):
        # Without its idle rows the table would not be too fine.
        table = table_of_grain([7, 43])
        hidden = with_rows(table, [([[(0, 500)], [(0, 500)]], 1)] + table.rows)
        self.assert_refused(TooFine, thinned, hidden)

    def test_nothing_is_changed(self):
        for way in WAYS:
            self.assert_lists_of_its_own(thinned, way)


class Knit(TurnCase):
    def assert_knit(self, way, rows, due):
        table = fee_table(way, rows)
        told = knit(table)
        self.assert_head(told, table)
        self.assertEqual(told.rows, due)

    def test_rows_that_touch(self):
        for way in WAYS:
            rows = [([[(0, 9)], [(1, 1)]], 5), ([[(10, 19)], [(1, 1)]], 5)]
            self.assert_knit(way, rows, [([[(0, 19)], [(1, 1)]], 5)])
            self.assert_knit(way, rows[::-1], [([[(0, 19)], [(1, 1)]], 5)])

    def test_rows_that_lie_apart(self):
        for way in WAYS:
            rows = [([[(0, 9), (30, 30)], [(1, 1)]], 5), ([[(11, 19)], [(1, 1)]], 5)]
            self.assert_knit(way, rows, [([[(0, 9), (11, 19), (30, 30)], [(1, 1)]], 5)])

    def test_the_second_column(self):
        for way in WAYS:
            rows = [([[(0, 9)], [(2, 2)]], 5), ([[(0, 9)], [(0, 0)]], 5)]
            self.assert_knit(way, rows, [([[(0, 9)], [(0, 0), (2, 2)]], 5)])

    def test_codes_in_common(self):
        for common in ([(9, 19)], [(3, 4)], [(0, 9)], [(5, 5), (50, 60)]):
            rows = [([[(0, 9)], [(1, 1)]], 5), ([common, [(1, 1)]], 5)]
            joined = spans_of(codes_of([(0, 9)] + common))
            for way in OTHERS:
                self.assert_knit(way, rows, [([joined, [(1, 1)]], 5)])
            for way in COUNTING:
                self.assert_knit(way, rows, rows)

    def test_codes_in_common_in_the_second_column(self):
        rows = [([[(0, 9)], [(0, 1)]], 5), ([[(0, 9)], [(1, 2)]], 5)]
        for way in OTHERS:
            self.assert_knit(way, rows, [([[(0, 9)], ALL_HUES], 5)])
        for way in COUNTING:
            self.assert_knit(way, rows, rows)

    def test_rows_that_are_alike(self):
        rows = [([[(0, 9)], [(0, 1)]], 5)] * 3
        for way in OTHERS:
            self.assert_knit(way, rows, rows[:1])
        for way in COUNTING:
            self.assert_knit(way, rows, rows)

    def test_other_outcome(self):
        for way in WAYS:
            rows = [([[(0, 9)], [(1, 1)]], 5), ([[(10, 19)], [(1, 1)]], 6)]
            self.assert_knit(way, rows, rows)
            self.assert_knit(way, [rows[0], (rows[0][0], 6)], [rows[0], (rows[0][0], 6)])

    def test_two_columns_differ(self):
        for way in WAYS:
            rows = [([[(0, 9)], [(1, 1)]], 5), ([[(10, 19)], [(0, 0)]], 5)]
            self.assert_knit(way, rows, rows)
            rows = [([[(0, 9)], [(0, 1)]], 5), ([[(10, 19)], [(0, 0)]], 5)]
            self.assert_knit(way, rows, rows)

    def test_rows_that_are_no_neighbours(self):
        for way in WAYS:
            rows = [([[(0, 9)], [(1, 1)]], 5), ([[(40, 50)], [(0, 0)]], 5), ([[(10, 19)], [(1, 1)]], 5)]
            self.assert_knit(way, rows, rows)
            rows = [([[(0, 9)], [(1, 1)]], 5), ([[(10, 19)], [(1, 1)]], 6), ([[(20, 29)], [(1, 1)]], 5)]
            self.assert_knit(way, rows, rows)

    def test_empty_sets(self):
        for way in WAYS:
            self.assert_knit(way, [([[], [(1, 1)]], 5), ([[(3, 4)], [(1, 1)]], 5)], [([[(3, 4)], [(1, 1)]], 5)])
            self.assert_knit(way, [([[(3, 4)], [(1, 1)]], 5), ([[], [(1, 1)]], 5)], [([[(3, 4)], [(1, 1)]], 5)])
            self.assert_knit(way, [([[], []], 5)] * 2, [([[], []], 5)])
            # The codes of both rows meet in the first column, none do in the second one.
            self.assert_knit(way, [([[(3, 4)], []], 5)] * 2, [([[(3, 4)], []], 5)])
            rows = [([[], [(1, 1)]], 5), ([[(3, 4)], []], 5)]
            self.assert_knit(way, rows, rows)

    def test_one_column_alone(self):
        for way in WAYS:
            told = knit(age_table(way, [([(0, 9)], 1), ([(30, 39)], 1), ([(10, 19)], 1), ([(20, 20)], 2), ([(40, 40)], 2)]))
            self.assertEqual(told.rows, [([[(0, 19), (30, 39)]], 1), ([[(20, 20), (40, 40)]], 2)])

    def test_the_first_two_are_joined_first(self):
        # The middle row could go with either; the last one is left alone.
        for way in WAYS:
            rows = [([[(0, 9)], [(0, 0)]], 5), ([[(0, 9)], [(1, 1)]], 5), ([[(10, 19)], [(1, 1)]], 5)]
            self.assert_knit(way, rows, [([[(0, 9)], [(0, 1)]], 5), rows[2]])

    def test_what_was_joined_is_joined_with_the_row_ahead(self):
        for way in WAYS:
            rows = [([[(0, 9)], ALL_HUES], 5), ([[(10, 19)], [(0, 0)]], 5), ([[(10, 19)], [(1, 2)]], 5)]
            self.assert_knit(way, rows, [([[(0, 19)], ALL_HUES], 5)])

    def test_what_was_joined_is_joined_with_the_row_behind(self):
        for way in WAYS:
            rows = [([[(10, 19)], [(0, 0)]], 5), ([[(10, 19)], [(1, 2)]], 5), ([[(0, 9)], ALL_HUES], 5)]
            self.assert_knit(way, rows, [([[(0, 19)], ALL_HUES], 5)])

    def test_begins_again_from_the_first_row(self):
        # Joined, the second and the third go with the first ahead of the last, which then stays alone.
        rows = [([[(0, 9)], ALL_HUES], 5), ([[(10, 19)], [(0, 0)]], 5), ([[(10, 19)], [(1, 2)]], 5),
                ([[(10, 19)], [(0, 0)]], 5)]
        for way in OTHERS:
            self.assert_knit(way, rows, [([[(0, 19)], ALL_HUES], 5), rows[3]])
        rows = [([[(0, 9)], [(0, 1)]], 5), ([[(10, 19)], [(0, 0)]], 5), ([[(10, 19)], [(1, 1)]], 5),
                ([[(10, 19)], [(2, 2)]], 5)]
        for way in WAYS:
            self.assert_knit(way, rows, [([[(0, 19)], [(0, 1)]], 5), rows[3]])

    def test_counting_ways_meet_what_was_joined(self):
        # The third row has codes in common with the first one alone, but not to be joined with what both became.
        rows = [([(0, 4)], 5), ([(5, 9)], 5), ([(0, 0)], 5)]
        for way in COUNTING:
            self.assertEqual(spans_rows(knit(age_table(way, rows))), [[(0, 9)], [(0, 0)]])
        for way in OTHERS:
            self.assertEqual(spans_rows(knit(age_table(way, rows))), [[(0, 9)]])

    def test_no_rows_and_one_row(self):
        for way in WAYS:
            self.assert_knit(way, [], [])
            self.assert_knit(way, FEE_ROWS[:1], FEE_ROWS[:1])

    def test_by_the_words(self):
        joined = {way: 0 for way in WAYS}
        for seed in range(600):
            table = joinable_table(seed, WAYS[seed % 6])
            told = knit(table)
            self.assertEqual(told.rows, plain_knit(table).rows)
            self.assert_same_verdicts(told, table)
            joined[table.way] += len(table.rows) - len(told.rows)
        self.assertGreater(min(joined.values()), 100)

    def test_200_rows(self):
        for way in WAYS:
            wide = Table("t", ["a"], [Numbers(0, 399)], FEE, way, [([[(k, k)]], 3) for k in range(200)])
            self.assertEqual(knit(wide).rows, [([[(0, 199)]], 3)])
            unlike = with_rows(wide, [([[(k, k)]], k % 2) for k in range(200)])
            self.assertEqual(knit(unlike).rows, unlike.rows)
            turns = [([[(k % 100 * 2, k % 100 * 2)]], 3 + k // 100) for k in range(200)]
            every_second = [(2 * k, 2 * k) for k in range(100)]
            self.assertEqual(knit(with_rows(wide, turns)).rows, [([every_second], 3), ([every_second], 4)])
            self.assert_same_verdicts(knit(table_of_200_rows(way)), table_of_200_rows(way))

    def test_4_columns(self):
        for way in WAYS:
            for column in range(4):
                cells = [[(1, 1)]] * 4
                others = cells[:column] + [[(2, 2)]] + cells[column + 1:]
                table = Table("t", many_words(4), [HUE] * 4, FEE, way, [(cells, 1), (others, 1)])
                self.assertEqual(knit(table).rows, [(cells[:column] + [[(1, 2)]] + cells[column + 1:], 1)])

    def test_60_figures(self):
        for way in WAYS:
            wide = Numbers(-GREAT, GREAT)
            table = Table("t", ["a"], [wide], wide, way, [([[(-GREAT, -1)]], GREAT), ([[(0, GREAT)]], GREAT)])
            self.assertEqual(knit(table).rows, [([[(-GREAT, GREAT)]], GREAT)])
            near = with_rows(table, [([[(-GREAT, 0)]], GREAT), ([[(0, GREAT)]], GREAT)])
            self.assertEqual(len(knit(near).rows), 2 if way in COUNTING else 1)

    def test_no_grain_is_too_fine(self):
        for counts in GRAINS_ABOVE_300:
            table = table_of_grain(counts)
            self.assertEqual(knit(table).rows, plain_knit(table).rows)

    def test_nothing_is_changed(self):
        for way in WAYS:
            self.assert_lists_of_its_own(knit, way)
        rows = [([[(0, 9)], [(1, 1)]], 5), ([[(10, 19)], [(1, 1)]], 5), ([[(3, 3)], [(1, 1)]], 5)]
        table = fee_table("like", rows)
        knit(table).rows[0][0][1].clear()
        self.assertEqual(table.rows, rows)


class Apart(TurnCase):
    def plain_apart(self, table):
        for codes in all_codes(plain_bounds(table)):
            if bin(plain_mask(table.rows, codes)).count("1") > 1:
                return False
        return True

    def test_plain(self):
        self.assertIs(apart(fee_table()), False)
        self.assertIs(apart(fee_table("first", [([[(0, 17)], ALL_HUES], 1), ([[(18, 120)], ALL_HUES], 1)])), True)

    def test_one_code_alone_is_shared(self):
        for way in WAYS:
            rows = [([[(0, 9)], [(0, 1)]], 1), ([[(9, 20)], [(1, 2)]], 2)]
            self.assertIs(apart(fee_table(way, rows)), False)
            for other in ([[(10, 20)], [(1, 2)]], [[(9, 20)], [(2, 2)]], [[(10, 20)], [(2, 2)]]):
                self.assertIs(apart(fee_table(way, [rows[0], (other, 2)])), True)
                self.assertIs(apart(fee_table(way, [(other, 2), rows[0]])), True)

    def test_spans_between_spans(self):
        evens = [(2 * k, 2 * k) for k in range(60)]
        odds = [(2 * k + 1, 2 * k + 1) for k in range(60)]
        self.assertIs(apart(age_table("first", [(evens, 1), (odds, 1)])), True)
        self.assertIs(apart(age_table("first", [(evens, 1), (odds + [(120, 120)], 1)])), True)
        self.assertIs(apart(age_table("first", [(evens + [(120, 120)], 1), (odds + [(120, 120)], 1)])), False)
        self.assertIs(apart(age_table("first", [(evens, 1), ([(0, 0)] + odds[1:], 1)])), False)

    def test_rows_that_take_no_code(self):
        self.assertIs(apart(fee_table("first", [([[], ALL_HUES], 1)] * 2)), True)
        self.assertIs(apart(fee_table("first", [([ALL_AGES, []], 1)] * 2)), True)
        self.assertIs(apart(fee_table("first", [([ALL_AGES, []], 1), (EVERYWHERE, 1), ([[], []], 2)])), True)

    def test_no_rows_and_one_row(self):
        self.assertIs(apart(fee_table("first", [])), True)
        self.assertIs(apart(fee_table("first", [(EVERYWHERE, 1)])), True)
        self.assertIs(apart(fee_table("first", [(EVERYWHERE, 1)] * 2)), False)

    def test_any_two_of_200_rows(self):
        domain = Numbers(0, 500)
        rows = [([[(2 * k, 2 * k)], [(0, 500)]], 1) for k in range(200)]
        table = Table("t", ["a", "b"], [domain, domain], FEE, "first", rows)
        self.assertIs(apart(table), True)
        for one, other in ((0, 1), (0, 199), (198, 199), (57, 123)):
            cells = [[rows[one][0][0][0], rows[other][0][0][0]], [(500, 500)]]
            self.assertIs(apart(with_rows(table, rows[:other] + [(cells, 1)] + rows[other + 1:])), False)
        self.assertIs(apart(table_of_200_rows()), False)

    def test_4_columns(self):
        table = Table("t", many_words(4), [HUE] * 4, FEE, "first", [([[(0, 1)]] * 4, 1), ([[(1, 2)]] * 4, 1)])
        self.assertIs(apart(table), False)
        for column in range(4):
            cells = [[(2, 2)] if k == column else [(1, 2)] for k in range(4)]
            self.assertIs(apart(with_rows(table, [table.rows[0], (cells, 1)])), True)

    def test_60_figures(self):
        self.assertIs(apart(wide_table()), False)
        wide = Numbers(-GREAT, GREAT)
        table = Table("t", ["a"], [wide], FEE, "first", [([[(-GREAT, 0)]], 1), ([[(1, GREAT)]], 1)])
        self.assertIs(apart(table), True)
        self.assertIs(apart(with_rows(table, [([[(-GREAT, 0)]], 1), ([[(0, GREAT)]], 1)])), False)

    def test_no_grain_is_too_fine(self):
        for counts in GRAINS_ABOVE_300:
            self.assertIs(apart(table_of_grain(counts)), sum(count > 1 for count in counts) < 2)

    def test_code_by_code(self):
        told = []
        for seed in range(200):
            table = rough_table(seed)
            table = with_rows(table, table.rows[:2 + seed % 2])
            told.append(apart(table))
            self.assertIs(told[-1], self.plain_apart(table))
        self.assertGreater(told.count(True), 30)
        self.assertGreater(told.count(False), 30)

    def test_nothing_is_changed(self):
        table = fee_table("sum")
        self.assertIs(apart(table), False)
        self.assertEqual(table_state(table), ("fee", ["age", "hue"], [AGE, HUE], FEE, "sum", FEE_ROWS))


class Parted(TurnCase):
    def assert_parts(self, table, column, spans):
        told = parted(table, column, spans)
        self.assertIs(type(told), tuple)
        self.assertEqual(len(told), 2)
        for part, kept in zip(told, (True, False)):
            self.assert_head(part, table)
            due = []
            for cells, code in table.rows:
                left = spans_of([one for one in codes_of(cells[column]) if held(spans, one) is kept])
                if left:
                    due.append((cells[:column] + [left] + cells[column + 1:], code))
            self.assertEqual(part.rows, due)
        for codes in all_codes(plain_bounds(table)):
            verdicts = [plain_verdict(part, codes) for part in told]
            whole = plain_verdict(table, codes)
            self.assertEqual(verdicts, [whole, NONE] if held(spans, codes[column]) else [NONE, whole])

    def test_plain(self):
        young, old = parted(fee_table(), 0, [(0, 17)])
        self.assertEqual(young.rows, [
            ([[(0, 17)], ALL_HUES], 5), ([[(10, 17)], [(0, 0), (2, 2)]], 20), ([[(0, 9)], [(1, 1)]], 20),
            ([[(0, 17)], [(2, 2)]], -30),
        ])
        self.assertEqual(old.rows, [
            ([[(18, 64)], [(0, 0), (2, 2)]], 20), ([[(65, 120)], [(1, 1)]], 20), ([[(18, 120)], [(2, 2)]], -30),
        ])
        for way in WAYS:
            self.assert_parts(fee_table(way), 0, [(0, 17)])
            self.assert_parts(fee_table(way), 0, [(3, 3), (12, 70), (119, 120)])
            self.assert_parts(fee_table(way), 1, [(0, 0), (2, 2)])

    def test_all_codes(self):
        for spans in ([(0, 120)], [(-9, 500)], [(-GREAT, GREAT)]):
            told = parted(fee_table(), 0, spans)
            self.assertEqual(told[0].rows, FEE_ROWS[:3] + FEE_ROWS[4:])
            self.assertEqual(told[1].rows, [])

    def test_no_codes(self):
        for spans in ([], [(-9, -1)], [(121, 121)], [(-9, -1), (121, GREAT)]):
            told = parted(fee_table(), 0, spans)
            self.assertEqual(told[0].rows, [])
            self.assertEqual(told[1].rows, FEE_ROWS[:3] + FEE_ROWS[4:])

    def test_empty_sets_elsewhere_stay(self):
        told = parted(fee_table("first", [([[(0, 9)], []], 1), ([[], ALL_HUES], 2)]), 0, [(5, 7)])
        self.assertEqual(told[0].rows, [([[(5, 7)], []], 1)])
        self.assertEqual(told[1].rows, [([[(0, 4), (8, 9)], []], 1)])

    def test_each_column(self):
        for column in range(4):
            for way in ("first", "sum"):
                rows = [([[(0, 1)]] * 4, 1), ([[(1, 2)]] * 4, 2), ([[(0, 0), (2, 2)]] * 4, 4)]
                table = Table("t", many_words(4), [HUE] * 4, FEE, way, rows)
                for spans in ([], [(0, 0)], [(1, 2)], [(0, 0), (2, 2)], [(0, 2)]):
                    self.assert_parts(table, column, spans)

    def test_one_column_and_no_rows(self):
        self.assert_parts(age_table("only", [([(0, 50)], 1), ([(40, 90)], 2)]), 0, [(30, 45)])
        self.assert_parts(age_table("only", []), 0, [(30, 45)])

    def test_200_rows(self):
        for way in WAYS:
            self.assert_parts(table_of_200_rows(way), 0, [(0, 3), (9, 9), (20, 25)])

    def test_60_figures(self):
        low, high = parted(wide_table(), 1, [(-GREAT, 4)])
        self.assertEqual(low.rows, [([[(-GREAT, -GREAT)], [(-GREAT, 4)]], GREAT), ([[(-GREAT, GREAT)], [(-7, 4)]], GREAT - 3)])
        self.assertEqual([cells[1] for cells, code in high.rows], [[(5, GREAT)], [(5, GREAT - 1)], [(5, 5)]])

    def test_no_grain_is_too_fine(self):
        for counts in GRAINS_ABOVE_300:
            told = parted(table_of_grain(counts), 0, [(0, 500)])
            self.assertEqual(told[0].rows, table_of_grain(counts).rows)

    def test_code_by_code(self):
        for seed in range(100):
            table = rough_table(seed, WAYS[seed % 6])
            chance = random.Random(seed)
            column = chance.randrange(len(table.names))
            domain = table.domains[column]
            codes = [code for code in range(domain.low, domain.high + 1) if chance.random() < 0.5]
            self.assert_parts(table, column, spans_of(codes))

    def test_nothing_is_changed(self):
        for at in (0, 1):
            self.assert_lists_of_its_own(lambda table: parted(table, 0, [(0, 17)])[at])
            self.assert_lists_of_its_own(lambda table: parted(table, 1, [(2, 2)])[at], "sum")
        spans = [(0, 17), (30, 40)]
        told = parted(fee_table(), 0, spans)
        self.assertEqual(spans, [(0, 17), (30, 40)])
        kept = copy.deepcopy(told[0].rows)
        spans.clear()
        self.assertEqual(told[0].rows, kept)

    def test_the_two_parts_share_no_list(self):
        inside, outside = parted(fee_table(), 0, [(0, 17)])
        kept = copy.deepcopy(outside.rows)
        for cells, code in inside.rows:
            cells[1].clear()
        inside.names.clear()
        self.assertEqual(outside.rows, kept)
        self.assertEqual(outside.names, ["age", "hue"])


class Stacked(TurnCase):
    def test_plain(self):
        one = fee_table("first", FEE_ROWS[:2])
        other = fee_table("first", FEE_ROWS[2:])
        told = stacked(one, other)
        self.assert_head(told, one)
        self.assertEqual(told.rows, FEE_ROWS)
        self.assertEqual(stacked(other, one).rows, FEE_ROWS[2:] + FEE_ROWS[:2])

    def test_name_of_the_first(self):
        one = Table("one", ["age"], [AGE], FEE, "sum", [([[(0, 5)]], 1)])
        other = Table("other", ["age"], [Numbers(0, 120)], Numbers(-50, 50), "sum", [([[(3, 9)]], 2)])
        told = stacked(one, other)
        self.assertEqual(told.name, "one")
        self.assertEqual(told.rows, [([[(0, 5)]], 1), ([[(3, 9)]], 2)])
        self.assertEqual([verdict(told, [code]) for code in (0, 4, 9, 10)], [say(1), say(3), say(2), NONE])
        self.assertEqual(stacked(other, one).name, "other")

    def test_no_rows(self):
        empty = fee_table("like", [])
        full = fee_table("like")
        self.assertEqual(stacked(empty, full).rows, FEE_ROWS)
        self.assertEqual(stacked(full, empty).rows, FEE_ROWS)
        self.assertEqual(stacked(empty, empty).rows, [])

    def test_with_itself(self):
        table = fee_table("low")
        self.assertEqual(stacked(table, table).rows, FEE_ROWS + FEE_ROWS)
        self.assertEqual(table.rows, FEE_ROWS)

    def test_unlike_domains(self):
        for rows in ([], FEE_ROWS):
            for other in unlike_tables(rows):
                self.assert_refused(Unlike, stacked, fee_table("first", rows), other)
                self.assert_refused(Unlike, stacked, other, fee_table("first", rows))

    def test_unlike_domains_of_columns_with_the_same_name(self):
        for domain in (Numbers(0, 121), Numbers(-1, 120), HUE):
            other = Table("t", ["age"], [domain], FEE, "first", [])
            self.assert_refused(Unlike, stacked, age_table("first", []), other)
            self.assert_refused(Unlike, stacked, other, age_table("first", []))

    def test_unlike_names(self):
        for names in (["age", "hues"], ["ages", "hue"], ["a", "b"]):
            other = Table("fee", names, [AGE, HUE], FEE, "first", FEE_ROWS)
            self.assert_refused(Unlike, stacked, fee_table(), other)
            self.assert_refused(Unlike, stacked, other, fee_table())
        one = Table("t", ["a", "b"], [AGE, AGE], FEE, "first", [])
        self.assert_refused(Unlike, stacked, one, Table("t", ["b", "a"], [AGE, AGE], FEE, "first", []))
        self.assert_refused(Unlike, stacked, one, Table("t", ["a"], [AGE], FEE, "first", []))
        self.assert_refused(Unlike, stacked, one, Table("t", ["a", "b", "c"], [AGE] * 3, FEE, "first", []))

    def test_unlike_ways(self):
        for way, other in itertools.permutations(WAYS, 2):
            self.assert_refused(Unlike, stacked, fee_table(way), fee_table(other))
        for way in WAYS:
            self.assertEqual(stacked(fee_table(way), fee_table(way)).way, way)

    def test_200_and_201_rows(self):
        row = ([[(3, 9)]], 1)
        for many, more in ((100, 100), (200, 0), (0, 200), (199, 1), (1, 199)):
            one = Table("t", ["age"], [AGE], FEE, "first", [row] * many)
            other = Table("t", ["age"], [AGE], FEE, "first", [row] * more)
            self.assertEqual(stacked(one, other).rows, [row] * 200)
            if more < 200:
                self.assert_refused(TooMany, stacked, one, with_rows(other, [row] * (more + 1)))
            if many < 200:
                self.assert_refused(TooMany, stacked, with_rows(one, [row] * (many + 1)), other)
        full = Table("t", ["age"], [AGE], FEE, "first", [row] * 200)
        self.assert_refused(TooMany, stacked, full, full)

    def test_unlike_ahead_of_too_many(self):
        rows = (FEE_ROWS * 40)[:101]
        for other in unlike_tables(rows):
            self.assert_refused(Unlike, stacked, fee_table("first", rows), other)
        self.assert_refused(Unlike, stacked, fee_table("first", rows), fee_table("sum", rows))
        self.assert_refused(Unlike, stacked, fee_table("first", rows), Table("fee", ["age", "hues"], [AGE, HUE], FEE, "first", rows))
        self.assert_refused(TooMany, stacked, fee_table("first", rows), fee_table("first", rows[:100]))

    def test_4_columns(self):
        table = Table("t", many_words(4), [HUE] * 4, HUE, "first", [([[(0, 1)]] * 4, 1)])
        other = Table("t", many_words(4), [Words(["red", "green", "blue"])] * 4, HUE, "first", [([[(1, 2)]] * 4, 2)])
        self.assertEqual(stacked(table, other).rows, table.rows + other.rows)

    def test_parts_again(self):
        # Parted and stacked again, whichever part comes first, a table tells the same.
        for seed in range(60):
            table = rough_table(seed, WAYS[seed % 6])
            for column in range(len(table.names)):
                domain = table.domains[column]
                inside, outside = parted(table, column, [(domain.low, (domain.low + domain.high) // 2)])
                self.assert_same_verdicts(stacked(inside, outside), table)
                self.assert_same_verdicts(stacked(outside, inside), table)

    def test_no_grain_is_too_fine(self):
        for counts in GRAINS_ABOVE_300:
            table = table_of_grain(counts)
            self.assertEqual(stacked(table, table).rows, table.rows * 2)

    def test_nothing_is_changed(self):
        self.assert_lists_of_its_own(lambda table: stacked(table, fee_table()))
        self.assert_lists_of_its_own(lambda table: stacked(fee_table(), table))


class Turned(TurnCase):
    def test_plain(self):
        told = turned(fee_table("sum"), [1, 0])
        rows = [([cells[1], cells[0]], code) for cells, code in FEE_ROWS]
        self.assertEqual(table_state(told), ("fee", ["hue", "age"], [HUE, AGE], FEE, "sum", rows))

    def test_each_order(self):
        domains = [HUE, Numbers(-1, 0), Words(["so"]), Numbers(5, 6)]
        rows = [([[(0, 1)], [(0, 0)], [(0, 0)], [(5, 5)]], 1), ([[(1, 2)], [(-1, 0)], [(0, 0)], []], 2),
                ([[(1, 1)], [(-1, -1)], [(0, 0)], [(5, 6)]], 3)]
        for count in (1, 2, 3, 4):
            table = Table("t", ["a", "b", "c", "d"][:count], domains[:count], FEE, "first",
                          [(cells[:count], code) for cells, code in rows])
            for order in itertools.permutations(range(count)):
                told = turned(table, list(order))
                self.assertIs(type(told), Table)
                self.assertEqual((told.name, told.outcome, told.way), ("t", FEE, "first"))
                for place, column in enumerate(order):
                    self.assertEqual(told.names[place], table.names[column])
                    self.assertIs(told.domains[place], table.domains[column])
                    self.assertEqual([cells[place] for cells, code in told.rows], [cells[column] for cells, code in table.rows])
                self.assertEqual([code for cells, code in told.rows], [code for cells, code in table.rows])
                for codes in all_codes(plain_bounds(table)):
                    self.assertEqual(verdict(told, [codes[column] for column in order]), plain_verdict(table, codes))

    def test_same_order(self):
        for way in WAYS:
            self.assertEqual(table_state(turned(fee_table(way), [0, 1])), table_state(fee_table(way)))

    def test_three_columns_go_round(self):
        # order[k] tells where column k comes from, not where it goes.
        table = Table("t", ["a", "b", "c"], [HUE, AGE, FEE], FEE, "first", [([[(0, 0)], [(1, 1)], [(2, 2)]], 3)])
        told = turned(table, [1, 2, 0])
        self.assertEqual(told.names, ["b", "c", "a"])
        self.assertEqual(told.domains, [AGE, FEE, HUE])
        self.assertEqual(told.rows, [([[(1, 1)], [(2, 2)], [(0, 0)]], 3)])

    def test_no_rows_and_200_rows(self):
        self.assertEqual(turned(fee_table("first", []), [1, 0]).rows, [])
        table = table_of_200_rows()
        self.assertEqual(turned(table, [1, 0]).rows, [([cells[1], cells[0]], code) for cells, code in table.rows])

    def test_no_grain_is_too_fine(self):
        for counts in GRAINS_ABOVE_300:
            table = table_of_grain(counts)
            order = list(reversed(range(len(counts))))
            self.assertEqual(turned(turned(table, order), order).rows, table.rows)

    def test_code_by_code(self):
        for seed in range(80):
            table = rough_table(seed, WAYS[seed % 6])
            order = list(range(len(table.names)))
            random.Random(seed).shuffle(order)
            told = turned(table, order)
            for codes in all_codes(plain_bounds(table)):
                self.assertEqual(plain_verdict(told, [codes[column] for column in order]), plain_verdict(table, codes))

    def test_nothing_is_changed(self):
        order = [1, 0]
        self.assert_lists_of_its_own(lambda table: turned(table, order))
        self.assert_lists_of_its_own(lambda table: turned(table, [0, 1]), "sum")
        self.assertEqual(order, [1, 0])


class OneAfterAnother(TurnCase):
    def test_same_verdicts_on_every_road(self):
        for seed in range(60):
            table = rough_table(seed, WAYS[seed % 6])
            self.assert_same_verdicts(knit(thinned(table)), table)
            self.assert_same_verdicts(thinned(knit(table)), table)
            last_first = list(reversed(range(len(table.names))))
            self.assert_same_verdicts(turned(knit(turned(table, last_first)), last_first), table)


if __name__ == "__main__":
    unittest.main()
