import itertools
import random
import unittest

from helpers import (
    CLASH, EVERYWHERE, FEE, GRAINS_ABOVE_300, GREAT, HUE, NONE, WAYS, TurnCase, age_table, all_codes, counted_table,
    fee_table, held, many_words, plain_bounds, plain_verdict, rough_table, say, spans_of, table_of_grain, wide_table,
    words_table,
)
from rowjudge.domains import Numbers, Words
from rowjudge.errors import Clash, TooFine, TooMany
from rowjudge.finds import same_everywhere
from rowjudge.forms import boxes, built, look
from rowjudge.layers import verdict_form
from rowjudge.spreads import rows_of, spread
from rowjudge.tables import Table, with_rows
from rowjudge.turns import apart


def how_many_say(table):
    return len([leaf for box, leaf in boxes(verdict_form(table), len(table.names)) if leaf[0] == "say"])


class RowsCase(TurnCase):
    def assert_rows(self, rows, deep, codes, leaf):
        # Rows of the kinds told, and at codes the one that is due, or none.
        self.assertIs(type(rows), list)
        for row in rows:
            self.assertIs(type(row), tuple)
            cells, code = row
            self.assert_kinds(cells, [[(int, int)]])
            self.assertEqual(len(cells), deep)
            self.assertTrue(all(cells), row)
            for spans in cells:
                for low, high in spans:
                    self.assertLessEqual(low, high)
                for one, other in zip(spans, spans[1:]):
                    self.assertGreater(other[0], one[1] + 1)
            self.assertIs(type(code), int)
        for some in codes:
            fitting = [say(code) for cells, code in rows if all(map(held, cells, some))]
            told = leaf(some)
            self.assertEqual(fitting, [told] if told[0] == "say" else [], some)


class RowsOf(RowsCase):
    def test_plain(self):
        form = ((0, 9, say(5)), (10, 19, NONE), (20, 120, say(7)))
        self.assertEqual(sorted(rows_of(form, 1)), [([[(0, 9)]], 5), ([[(20, 120)]], 7)])
        form = ((0, 17, ((0, 2, say(5)),)), (18, 120, ((0, 0, say(20)), (1, 1, NONE), (2, 2, CLASH))))
        rows = rows_of(form, 2)
        self.assert_rows(rows, 2, all_codes([(0, 120), (0, 2)]), lambda codes: look(form, codes))
        self.assertEqual({code for cells, code in rows}, {5, 20})

    def test_nothing_is_said(self):
        self.assertEqual(rows_of(((0, 9, NONE),), 1), [])
        self.assertEqual(rows_of(((0, 9, CLASH),), 1), [])
        self.assertEqual(rows_of(((0, 4, ((0, 2, NONE),)), (5, 9, ((0, 1, CLASH), (2, 2, NONE)))), 2), [])

    def test_code_nought_is_said(self):
        self.assertEqual(rows_of(((3, 9, say(0)),), 1), [([[(3, 9)]], 0)])

    def test_no_column(self):
        self.assertEqual(rows_of(say(4), 0), [([], 4)])
        self.assertEqual(rows_of(NONE, 0), [])

    def test_60_figures(self):
        form = ((-GREAT, -1, say(-GREAT)), (0, 0, CLASH), (1, GREAT, say(GREAT)))
        self.assertEqual(sorted(rows_of(form, 1)), [([[(-GREAT, -1)]], -GREAT), ([[(1, GREAT)]], GREAT)])

    def test_1_to_6_columns(self):
        for deep in range(1, 7):
            for seed in range(8):
                chance = random.Random(10 * deep + seed)
                bounds = [(-1, chance.randint(-1, 1)) for column in range(deep)]
                form = built(bounds, [[0, 1]] * deep if deep < 6 else [[0]] * deep,
                             lambda codes: chance.choice([NONE, CLASH, say(1), say(2), say(1)]))
                self.assert_rows(rows_of(form, deep), deep, all_codes(bounds), lambda codes: look(form, codes))

    def test_more_than_200_rows(self):
        # Only a table is bounded, so no form is refused here.
        form = built([(0, 299)], [list(range(300))], lambda codes: say(codes[0]))
        self.assertEqual(sorted(rows_of(form, 1)), [([[(k, k)]], k) for k in range(300)])

    def test_verdict_forms_code_by_code(self):
        for seed in range(100):
            table = rough_table(seed, WAYS[seed % 6])
            rows = rows_of(verdict_form(table), len(table.names))
            self.assert_rows(rows, len(table.names), all_codes(plain_bounds(table)), lambda codes: plain_verdict(table, codes))

    def test_told_anew_each_time(self):
        form = ((0, 9, say(5)), (10, 19, NONE))
        told = rows_of(form, 1)
        told[0][0][0].clear()
        told[0][0].clear()
        told.clear()
        self.assertEqual(rows_of(form, 1), [([[(0, 9)]], 5)])


class Spread(RowsCase):
    def assert_spread(self, table, codes=None):
        told = spread(table)
        self.assert_head(told, table, "only")
        places = codes or all_codes(plain_bounds(table))
        self.assert_rows(told.rows, len(table.names), places, lambda some: plain_verdict(table, some))
        self.assertIs(apart(told), True)
        for some in places:
            self.assertEqual(plain_verdict(told, some), plain_verdict(table, some), some)
        return told

    def test_plain(self):
        for way in ("first", "low", "high", "sum"):
            self.assert_spread(fee_table(way))

    def test_one_column(self):
        told = self.assert_spread(age_table("first", [([(0, 9)], 1), ([(5, 19)], 2), ([(30, 39)], 2)]))
        self.assertEqual(told.way, "only")
        self.assertEqual(sum([high - low + 1 for cells, code in told.rows for low, high in cells[0]]), 30)

    def test_rows_that_share_codes_without_a_clash(self):
        self.assert_spread(age_table("like", [([(0, 9)], 1), ([(5, 19)], 1)]))
        self.assert_spread(age_table("sum", [([(0, 9)], 1), ([(5, 19)], 1), ([(0, 120)], 0)]))
        self.assert_spread(age_table("only", [([(0, 9)], 1), ([(10, 19)], 1)]))

    def test_no_rows(self):
        for way in WAYS:
            self.assertEqual(self.assert_spread(fee_table(way, [])).rows, [])
            self.assertEqual(self.assert_spread(fee_table(way, [([[], []], 1)] * 2)).rows, [])

    def test_all_codes_alike(self):
        for way in WAYS:
            self.assertEqual(spread(fee_table(way, [(EVERYWHERE, 4)])).rows, [(EVERYWHERE, 4)])

    def test_at_the_bounds(self):
        ends = [-GREAT, -GREAT + 1, -8, -7, 0, 1, 4, 5, 6, GREAT - 1, GREAT]
        places = [list(codes) for codes in itertools.product(ends, repeat=2)]
        for way in ("first", "low", "high", "sum"):
            told = self.assert_spread(wide_table(way), places)
            self.assertIs(same_everywhere(told, wide_table(way)), True)
            if way != "sum":
                self.assert_spread(words_table(way))
        full = Table("t", many_words(4), [HUE] * 4, FEE, "first", [([[(0, 1)]] * 4, 1), ([[(1, 2)]] * 4, 2)])
        self.assert_spread(full)
        self.assert_spread(Table("t", ["a"], [Words(["so"])], HUE, "high", [([[(0, 0)]], 1), ([[(0, 0)]], 2)]))

    def test_code_by_code(self):
        spread_out = 0
        for seed in range(150):
            table = rough_table(seed, WAYS[seed % 6])
            verdicts = [plain_verdict(table, codes) for codes in all_codes(plain_bounds(table))]
            if CLASH in verdicts:
                self.assert_refused(Clash, spread, table)
            else:
                self.assert_spread(table)
                spread_out += 1
        self.assertGreater(spread_out, 80)

    def test_200_rows(self):
        rows = [([[(k, k)]], k % 9) for k in range(200)]
        for way in WAYS:
            table = Table("t", ["a"], [Numbers(0, 210)], FEE, way, rows)
            self.assertEqual(len(self.assert_spread(table).rows), 200)

    def test_200_boxes_that_say_a_code(self):
        for pattern in ([1, 2], [1, 2, 3]):
            table = counted_table(200, pattern)
            self.assertEqual(how_many_say(table), 200)
            self.assert_spread(table)
        # Boxes that say nothing are not counted.
        table = counted_table(300, [1, 2, None])
        self.assertEqual(how_many_say(table), 200)
        self.assert_spread(table)

    def test_201_boxes_that_say_a_code(self):
        for table in (counted_table(201, [1, 2]), counted_table(201, [1, 2, 3]), counted_table(300, [1, 2, None], last=3)):
            self.assertEqual(how_many_say(table), 201)
            for way in WAYS:
                self.assert_refused(TooMany, spread, Table("t", ["a"], table.domains, table.outcome, way, table.rows))

    def test_boxes_of_two_columns(self):
        # In each of the 10 stretches of the first column the second one falls into as many boxes as it has codes.
        def table(count):
            rows = []
            for k in range(10):
                rows += [([[(k, k)], spans_of(range(start, count, 2))], k + start) for start in (0, 1)]
            return Table("t", ["a", "b"], [Numbers(0, 9), Numbers(0, count - 1)], FEE, "first", rows)

        self.assertEqual(how_many_say(table(20)), 200)
        self.assert_spread(table(20))
        self.assertEqual(how_many_say(table(21)), 210)
        self.assert_refused(TooMany, spread, table(21))

    def test_grain_of_300_with_fewer_boxes(self):
        # Neighbours that tell the same are one box.
        table = table_of_grain([15, 20])
        self.assertEqual(how_many_say(table), 87)
        self.assert_spread(table, all_codes([(0, 15), (0, 20)]))

    def test_clash(self):
        self.assert_refused(Clash, spread, fee_table("only"))
        self.assert_refused(Clash, spread, fee_table("like"))
        self.assert_refused(Clash, spread, age_table("only", [([(7, 7)], 1)] * 2))
        self.assert_refused(Clash, spread, age_table("like", [([(0, 120)], 1), ([(120, 120)], 2)]))
        self.assert_refused(Clash, spread, age_table("like", [([(0, 120)], 1), ([(0, 0)], 2)]))

    def test_too_fine(self):
        for counts in GRAINS_ABOVE_300:
            for way in ("first", "low", "high", "sum"):
                self.assert_refused(TooFine, spread, table_of_grain(counts, way))

    def test_too_fine_ahead_of_clash(self):
        for counts in GRAINS_ABOVE_300:
            table = table_of_grain(counts, "only")
            clashing = with_rows(table, table.rows + [([[(0, 500)]] * len(counts), 1)])
            self.assert_refused(TooFine, spread, clashing)

    def test_too_fine_ahead_of_too_many(self):
        self.assert_refused(TooFine, spread, counted_table(301, [1, 2]))
        self.assert_refused(TooMany, spread, counted_table(300, [1, 2, 3]))

    def test_clash_ahead_of_too_many(self):
        for at in (0, 150, 299):
            table = counted_table(300, [1, 2, 3], "only")
            self.assertGreater(how_many_say(table), 200)
            clashing = with_rows(table, table.rows + [([[(at, at)]], 1)])
            self.assertGreater(how_many_say(clashing), 200)
            self.assert_refused(Clash, spread, clashing)
            self.assert_refused(TooMany, spread, table)

    def test_all_three_at_once(self):
        table = counted_table(301, [1, 2, 3], "only")
        self.assert_refused(TooFine, spread, with_rows(table, table.rows + [([[(5, 5)]], 1)]))

    def test_nothing_is_changed(self):
        for way in ("first", "sum"):
            self.assert_lists_of_its_own(spread, way)


if __name__ == "__main__":
    unittest.main()
