import copy
import itertools
import random
import unittest

from helpers import (
    AGE, ALL_AGES, ALL_HUES, CLASH, FEE, FEE_ROWS, GRAINS_ABOVE_300, GRAINS_OF_300, GREAT, HUE, NONE, WAYS, BoxCase,
    FormCase, RefusalCase, all_codes, fee_table, many_words, plain_bounds, plain_mask, plain_verdict, rough_table, say,
    spans_of, table_of_200_rows, table_of_grain, table_state, wide_table, words_table,
)
from rowjudge.domains import Numbers, Words
from rowjudge.errors import TooFine
from rowjudge.forms import boxes, grain, look, volume
from rowjudge.layers import row_form, table_bounds, table_marks, tiling, verdict_form
from rowjudge.tables import Table, with_rows


def plain_marks(table):
    # Code by code: where some row's spans hold just one of a code and the one below it.
    marks = []
    for column, domain in enumerate(table.domains):
        held = [[any(low <= code <= high for low, high in cells[column]) for code in range(domain.low, domain.high + 1)]
                for cells, code in table.rows]
        marks.append([code for code in range(domain.low + 1, domain.high + 1)
                      if any(row[code - domain.low] != row[code - domain.low - 1] for row in held)])
    return marks


def codes_of_stretches(bounds, marks, chance):
    # In every stretch the lowest code, the highest one and a further one.
    columns = []
    for (low, high), cuts in zip(bounds, marks):
        lows = [low] + cuts
        highs = [cut - 1 for cut in cuts] + [high]
        columns.append(sorted({code for a, b in zip(lows, highs) for code in (a, b, chance.randint(a, b))}))
    return [list(codes) for codes in itertools.product(*columns)]


class LayerCase(FormCase, BoxCase):
    def assert_layers(self, table, places):
        bounds = plain_bounds(table)
        masks = row_form(table)
        verdicts = verdict_form(table)
        self.assert_form(masks, bounds)
        self.assert_form(verdicts, bounds)
        for codes in places:
            self.assertEqual(look(masks, codes), plain_mask(table.rows, codes), codes)
            self.assertEqual(look(verdicts, codes), plain_verdict(table, codes), codes)

    def assert_every_stretch(self, table):
        places = codes_of_stretches(table_bounds(table), table_marks(table), random.Random(1))
        self.assert_layers(table, places)


class TableBounds(RefusalCase):
    def test_plain(self):
        told = table_bounds(fee_table())
        self.assertEqual(told, [(0, 120), (0, 2)])
        self.assert_kinds(told, [(int, int)])

    def test_1_and_4_columns(self):
        self.assertEqual(table_bounds(Table("t", ["a"], [Numbers(-5, -5)], FEE, "first", [])), [(-5, -5)])
        domains = [Numbers(3, 9), HUE, Words(["so"]), Words(many_words(40))]
        table = Table("t", ["a", "b", "c", "d"], domains, FEE, "first", [])
        self.assertEqual(table_bounds(table), [(3, 9), (0, 2), (0, 0), (0, 39)])

    def test_60_figures(self):
        self.assertEqual(table_bounds(wide_table()), [(-GREAT, GREAT)] * 2)

    def test_rows_do_not_matter(self):
        for rows in ([], FEE_ROWS[:1], [([[], []], 1)]):
            self.assertEqual(table_bounds(fee_table("first", rows)), [(0, 120), (0, 2)])

    def test_told_anew_each_time(self):
        table = fee_table()
        table_bounds(table).clear()
        self.assertEqual(table_bounds(table), [(0, 120), (0, 2)])

    def test_above_a_grain_of_300(self):
        for counts in GRAINS_ABOVE_300:
            self.assertEqual(table_bounds(table_of_grain(counts)), [(0, 500)] * len(counts))


class TableMarks(RefusalCase):
    def test_plain(self):
        told = table_marks(fee_table())
        self.assertEqual(told, [[10, 18, 65], [1, 2]])
        self.assert_kinds(told, [[int]])

    def test_no_rows(self):
        self.assertEqual(table_marks(fee_table("first", [])), [[], []])

    def test_rows_that_take_no_code_or_all(self):
        self.assertEqual(table_marks(fee_table("first", [([[], []], 1), ([ALL_AGES, ALL_HUES], 1)])), [[], []])
        # The spans count column by column, also in a row that fits nothing.
        self.assertEqual(table_marks(fee_table("first", [([[(5, 6)], []], 1)])), [[5, 7], []])

    def test_each_once_and_ascending(self):
        rows = [([[(50, 60)]], 1), ([[(10, 49)]], 1), ([[(50, 60)]], 2), ([[(0, 9), (61, 120)]], 1), ([[(120, 120)]], 0)]
        table = Table("t", ["a"], [AGE], FEE, "first", rows)
        self.assertEqual(table_marks(table), [[10, 50, 61, 120]])

    def test_ends_of_the_domain(self):
        for spans, marks in (([(0, 0)], [1]), ([(120, 120)], [120]), ([(0, 119)], [120]), ([(1, 120)], [1]),
                             ([(0, 120)], []), ([(0, 0), (120, 120)], [1, 120]), ([(3, 3)], [3, 4])):
            self.assertEqual(table_marks(Table("t", ["a"], [AGE], FEE, "first", [([spans], 1)])), [marks])

    def test_domain_of_one_code(self):
        for domain in (Numbers(7, 7), Words(["so"])):
            for spans in (domain.whole(), []):
                self.assertEqual(table_marks(Table("t", ["a"], [domain], FEE, "first", [([spans], 1)])), [[]])

    def test_40_words_and_60_figures(self):
        self.assertEqual(table_marks(words_table()), [[], [1, 3, 20, 21, 39]])
        self.assertEqual(table_marks(wide_table()), [[-GREAT + 1, 1, GREAT], [-7, 5, 6, GREAT]])

    def test_100_pairs(self):
        spans = [(2 * k, 2 * k) for k in range(100)]
        table = Table("t", ["a"], [Numbers(0, 500)], FEE, "first", [([spans], 1)] * 2)
        self.assertEqual(table_marks(table), [list(range(1, 200))])

    def test_code_by_code(self):
        for seed in range(80):
            table = rough_table(seed)
            self.assertEqual(table_marks(table), plain_marks(table))
        self.assertEqual(table_marks(table_of_200_rows()), plain_marks(table_of_200_rows()))

    def test_told_anew_each_time(self):
        table = fee_table()
        told = table_marks(table)
        told[0].append(3)
        told.pop()
        self.assertEqual(table_marks(table), [[10, 18, 65], [1, 2]])

    def test_above_a_grain_of_300(self):
        for counts in GRAINS_ABOVE_300:
            self.assertEqual(table_marks(table_of_grain(counts)), [list(range(1, count)) for count in counts])


class Forms(LayerCase):
    def test_plain_row_form(self):
        self.assertEqual(row_form(fee_table()), (
            (0, 9, ((0, 0, 0b1), (1, 1, 0b101), (2, 2, 0b10001))),
            (10, 17, ((0, 0, 0b11), (1, 1, 0b1), (2, 2, 0b10011))),
            (18, 64, ((0, 0, 0b10), (1, 1, 0), (2, 2, 0b10010))),
            (65, 120, ((0, 0, 0), (1, 1, 0b100), (2, 2, 0b10000))),
        ))

    def test_plain_verdict_form(self):
        self.assertEqual(verdict_form(fee_table("first")), (
            (0, 17, ((0, 2, say(5)),)),
            (18, 64, ((0, 0, say(20)), (1, 1, NONE), (2, 2, say(20)))),
            (65, 120, ((0, 0, NONE), (1, 1, say(20)), (2, 2, say(-30)))),
        ))
        self.assertEqual(verdict_form(fee_table("only")), (
            (0, 9, ((0, 0, say(5)), (1, 2, CLASH))),
            (10, 17, ((0, 0, CLASH), (1, 1, say(5)), (2, 2, CLASH))),
            (18, 64, ((0, 0, say(20)), (1, 1, NONE), (2, 2, CLASH))),
            (65, 120, ((0, 0, NONE), (1, 1, say(20)), (2, 2, say(-30)))),
        ))

    def test_no_rows(self):
        for way in WAYS:
            self.assertEqual(row_form(fee_table(way, [])), ((0, 120, ((0, 2, 0),)),))
            self.assertEqual(verdict_form(fee_table(way, [])), ((0, 120, ((0, 2, NONE),)),))

    def test_rows_that_take_no_code(self):
        rows = [([[], []], 1), ([[(5, 6)], []], 2), ([[], ALL_HUES], 3)]
        for way in WAYS:
            self.assertEqual(row_form(fee_table(way, rows)), ((0, 120, ((0, 2, 0),)),))
            self.assertEqual(verdict_form(fee_table(way, rows)), ((0, 120, ((0, 2, NONE),)),))
            self.assertEqual(row_form(fee_table(way, rows + [([ALL_AGES, ALL_HUES], 4)])), ((0, 120, ((0, 2, 8),)),))

    def test_1_column(self):
        table = Table("t", ["a"], [AGE], FEE, "sum", [([[(0, 9), (20, 29)]], 4), ([[(5, 24)]], 3)])
        self.assertEqual(row_form(table), ((0, 4, 1), (5, 9, 3), (10, 19, 2), (20, 24, 3), (25, 29, 1), (30, 120, 0)))
        self.assertEqual(verdict_form(table), ((0, 4, say(4)), (5, 9, say(7)), (10, 19, say(3)), (20, 24, say(7)),
                                               (25, 29, say(4)), (30, 120, NONE)))

    def test_4_columns(self):
        table = Table("t", ["a", "b", "c", "d"], [HUE] * 4, FEE, "only", [([[(1, 1)]] * 4, 6)])
        self.assertEqual(look(row_form(table), [1, 1, 1, 1]), 1)
        self.assert_layers(table, all_codes([(0, 2)] * 4))
        self.assertEqual(verdict_form(table)[1][2][1][2][1][2], ((0, 0, NONE), (1, 1, say(6)), (2, 2, NONE)))

    def test_domain_of_one_code(self):
        table = Table("t", ["a"], [Words(["so"])], HUE, "high", [([[(0, 0)]], 1), ([[(0, 0)]], 2), ([[]], 0)])
        self.assertEqual(row_form(table), ((0, 0, 3),))
        self.assertEqual(verdict_form(table), ((0, 0, say(2)),))

    def test_every_stretch_at_the_bounds(self):
        for way in WAYS:
            self.assert_every_stretch(wide_table(way))
            self.assert_every_stretch(fee_table(way))
            if way != "sum":
                self.assert_every_stretch(words_table(way))

    def test_200_rows(self):
        for way in ("first", "only", "sum"):
            table = table_of_200_rows(way)
            self.assertEqual(grain(table_bounds(table), table_marks(table)), 300)
            self.assert_layers(table, all_codes([(0, 29), (0, 9)]))

    def test_bit_of_the_last_of_200_rows(self):
        table = Table("t", ["a"], [AGE], FEE, "first", [([[]], 0)] * 199 + [([[(4, 4)]], 9)])
        self.assertEqual(row_form(table), ((0, 3, 0), (4, 4, 1 << 199), (5, 120, 0)))
        self.assertEqual(verdict_form(table), ((0, 3, NONE), (4, 4, say(9)), (5, 120, NONE)))

    def test_every_code_of_many_tables(self):
        for seed in range(120):
            table = rough_table(seed, WAYS[seed % 6])
            self.assert_layers(table, all_codes(plain_bounds(table)))

    def test_nothing_is_changed(self):
        for call in (table_bounds, table_marks, row_form, verdict_form, tiling):
            table = fee_table("only")
            before = copy.deepcopy(table.rows)
            told = call(table)
            self.assertEqual(call(table), told)
            self.assertEqual(table_state(table), ("fee", ["age", "hue"], [AGE, HUE], FEE, "only", before))


class SameVerdictsSameForm(RefusalCase):
    def assert_same(self, one, other):
        self.assertEqual(verdict_form(one), verdict_form(other))

    def test_row_cut_in_two(self):
        for way in ("first", "only", "like", "low", "high", "sum"):
            whole = fee_table(way, [([[(10, 30)], ALL_HUES], 5)])
            self.assert_same(whole, fee_table(way, [([[(10, 19)], ALL_HUES], 5), ([[(20, 30)], ALL_HUES], 5)]))
            self.assert_same(whole, fee_table(way, [([[(10, 30)], [(1, 2)]], 5), ([[(10, 30)], [(0, 0)]], 5)]))
            self.assert_same(whole, fee_table(way, [([[], ALL_HUES], 9), ([[(10, 30)], ALL_HUES], 5), ([[(3, 4)], []], 2)]))

    def test_other_ways_and_names(self):
        rows = [([[(0, 50)], ALL_HUES], 3), ([[(51, 120)], [(0, 1)]], 4)]
        for way in WAYS:
            other = Table("other", ["x", "y"], [Numbers(0, 120), Words(["red", "green", "blue"])], Numbers(-50, 50), way, rows)
            self.assert_same(fee_table("first", rows), other)

    def test_first_and_what_it_hides(self):
        self.assert_same(fee_table("first", [([[(0, 50)], ALL_HUES], 3), ([ALL_AGES, ALL_HUES], 4)]),
                         fee_table("only", [([[(51, 120)], ALL_HUES], 4), ([[(0, 50)], ALL_HUES], 3)]))

    def test_just_where_the_verdicts_are_the_same(self):
        # All tables of up to two rows over three codes, two outcomes.
        sets = [spans_of(some) for count in range(4) for some in itertools.combinations(range(3), count)]
        rows = [([spans], code) for spans in sets for code in (0, 1)]
        tables = [[]] + [[row] for row in rows] + [[one, other] for one in rows for other in rows]
        for way in WAYS:
            empty = Table("t", ["a"], [HUE], Numbers(0, 1), way, [])
            forms = {}
            for some in tables:
                table = with_rows(empty, some)
                verdicts = tuple(plain_verdict(table, [code]) for code in range(3))
                self.assertEqual(forms.setdefault(verdicts, verdict_form(table)), verdict_form(table))
            self.assertEqual(len(set(forms.values())), len(forms))


class Tiling(LayerCase):
    def test_plain(self):
        told = tiling(fee_table())
        self.assertEqual(told[:3], [(((0, 9), (0, 0)), 0b1), (((0, 9), (1, 1)), 0b101), (((0, 9), (2, 2)), 0b10001)])
        self.assertEqual(told[-1], (((65, 120), (2, 2)), 0b10000))
        self.assertEqual(len(told), 12)
        self.assert_kinds(told, [(((int, int), (int, int)), int)])

    def test_no_rows(self):
        self.assertEqual(tiling(fee_table("first", [])), [(((0, 120), (0, 2)), 0)])

    def test_boxes_of_row_form(self):
        for seed in range(40):
            table = rough_table(seed)
            self.assertEqual(tiling(table), boxes(row_form(table), len(table.names)))

    def test_all_codes_once(self):
        tables = [rough_table(seed) for seed in range(80)] + [table_of_200_rows(), fee_table("sum")]
        for table in tables:
            bounds = plain_bounds(table)
            found = {}
            for box, rows in tiling(table):
                self.assert_box(box, bounds)
                for codes in all_codes(box):
                    self.assertNotIn(tuple(codes), found)
                    found[tuple(codes)] = rows
            self.assertEqual(found, {tuple(codes): plain_mask(table.rows, codes) for codes in all_codes(bounds)})

    def test_all_codes_once_with_60_figures(self):
        told = tiling(wide_table())
        self.assert_boxes([box for box, rows in told], [(-GREAT, GREAT)] * 2)
        self.assertEqual(sum([volume(box) for box, rows in told]), (2 * GREAT + 1) ** 2)

    def test_told_anew_each_time(self):
        table = fee_table()
        first = tiling(table)
        kept = list(first)
        first.clear()
        self.assertEqual(tiling(table), kept)


class GrainOf300(LayerCase):
    def test_300(self):
        for counts in GRAINS_OF_300:
            for way in ("first", "sum"):
                table = table_of_grain(counts, way)
                self.assertEqual(grain(table_bounds(table), table_marks(table)), 300)
                self.assert_layers(table, all_codes([(0, count) for count in counts]))
                self.assertEqual(sum([volume(box) for box, rows in tiling(table)]), 501 ** len(counts))

    def test_above_300(self):
        for counts in GRAINS_ABOVE_300:
            for way in WAYS:
                for call in (row_form, verdict_form, tiling):
                    self.assert_refused(TooFine, call, table_of_grain(counts, way))

    def test_grain_goes_by_edges_not_by_verdicts(self):
        # Rows that fit nothing, and rows that are hidden, count with their edges all the same.
        table = table_of_grain([7, 43], "first")
        hidden = [([[(0, 500)], [(0, 500)]], 1)] + table.rows
        self.assert_refused(TooFine, verdict_form, with_rows(table, hidden))
        empty = [([cells[0], []], code) for cells, code in table_of_grain([301, 1]).rows]
        self.assert_refused(TooFine, row_form, with_rows(table, empty))


if __name__ == "__main__":
    unittest.main()
