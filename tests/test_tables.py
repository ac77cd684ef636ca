import copy
import itertools
import random
import unittest

from helpers import (
    AGE, ALL_AGES, ALL_HUES, CLASH, FEE, FEE_ROWS, GREAT, HUE, NONE, WAYS, RefusalCase, fee_table, many_words, plain_mask,
    say, spans_of, table_state,
)
from rowjudge.domains import Numbers, Words
from rowjudge.errors import BadName, BadRow, BadWay, Clash, Hole, Outside, TooMany
from rowjudge.tables import Table, answer, coded, fits, judged, mask, verdict, with_rows
from rowjudge.ways import way_by


class Fields(RefusalCase):
    def test_as_handed_in(self):
        table = fee_table()
        self.assertEqual(table.name, "fee")
        self.assertEqual(table.names, ["age", "hue"])
        self.assertEqual(table.domains, [AGE, HUE])
        self.assertIs(table.outcome, FEE)
        self.assertEqual(table.way, "first")
        self.assertEqual(table.rows, FEE_ROWS)
        self.assert_kinds(table.names, [str])
        self.assert_kinds(table.rows, [([[(int, int)]], int)])

    def test_way_is_its_name(self):
        for way in WAYS:
            self.assertEqual(fee_table(way).way, way)

    def test_lists_of_its_own(self):
        names = ["age", "hue"]
        domains = [AGE, HUE]
        rows = copy.deepcopy(FEE_ROWS)
        table = Table("fee", names, domains, FEE, "first", rows)
        names.append("more")
        domains[0] = HUE
        rows[0][0][0].append((50, 60))
        rows[1][0][1] = []
        rows[2][0].pop()
        rows.append(([ALL_AGES, ALL_HUES], 1))
        self.assertEqual(table.names, ["age", "hue"])
        self.assertEqual(table.domains, [AGE, HUE])
        self.assertEqual(table.rows, FEE_ROWS)
        self.assertEqual(verdict(table, [55, 1]), NONE)

    def test_rows_that_share_a_list(self):
        spans = [(1, 5)]
        cells = [spans]
        table = Table("t", ["a"], [AGE], FEE, "only", [(cells, 1), (cells, 2)])
        spans.clear()
        cells.clear()
        self.assertEqual(table.rows, [([[(1, 5)]], 1), ([[(1, 5)]], 2)])
        table.rows[0][0][0].append((9, 9))
        self.assertEqual(table.rows[1], ([[(1, 5)]], 2))

    def test_nothing_handed_in_is_changed(self):
        names = ["age", "hue"]
        domains = [AGE, HUE]
        rows = copy.deepcopy(FEE_ROWS)
        Table("fee", names, domains, FEE, "sum", rows)
        self.assertEqual((names, domains, rows), (["age", "hue"], [AGE, HUE], FEE_ROWS))


class Bounds(RefusalCase):
    def test_1_to_4_columns(self):
        for count in (1, 2, 3, 4):
            names = many_words(count)
            rows = [([[(1, 2)]] * count, 3)]
            table = Table("t", names, [AGE] * count, FEE, "first", rows)
            self.assertEqual(table.names, names)
            self.assertEqual(verdict(table, [2] * count), say(3))
            self.assertEqual(verdict(table, [2] * (count - 1) + [3]), NONE)

    def test_no_column(self):
        self.assert_refused(TooMany, Table, "t", [], [], FEE, "first", [])

    def test_5_columns(self):
        for count in (5, 6, 40):
            self.assert_refused(TooMany, Table, "t", many_words(count), [AGE] * count, FEE, "first", [])

    def test_no_row(self):
        table = fee_table(rows=[])
        self.assertEqual(table.rows, [])
        self.assertEqual(mask(table, [5, 1]), 0)
        self.assertEqual(verdict(table, [5, 1]), NONE)

    def test_200_rows(self):
        rows = [([[(k % 121, k % 121)], ALL_HUES], k % 50) for k in range(200)]
        table = fee_table("sum", rows)
        self.assertEqual(len(table.rows), 200)
        self.assertEqual(mask(table, [70, 0]), (1 << 70) + (1 << 191))
        self.assertEqual(verdict(table, [70, 0]), say(50))
        self.assertEqual(verdict(table, [120, 2]), say(20))

    def test_201_rows(self):
        row = ([ALL_AGES, ALL_HUES], 0)
        self.assertEqual(len(fee_table(rows=[row] * 200).rows), 200)
        self.assert_refused(TooMany, fee_table, "first", [row] * 201)
        self.assert_refused(TooMany, fee_table, "first", [row] * 500)

    def test_100_pairs(self):
        spans = [(3 * k, 3 * k + 1) for k in range(100)]
        table = Table("t", ["a"], [Numbers(0, 298)], FEE, "first", [([spans], 1)])
        for code in range(299):
            self.assertEqual(fits(table, 0, [code]), code % 3 != 2)
        self.assertEqual(table.rows, [([spans], 1)])

    def test_60_figures(self):
        wide = Numbers(-GREAT, GREAT)
        table = Table("t", ["a"], [wide], wide, "sum", [([[(-GREAT, -1)]], -GREAT), ([[(-5, GREAT)]], GREAT - 1)])
        self.assertEqual(verdict(table, [-GREAT]), say(-GREAT))
        self.assertEqual(verdict(table, [-5]), say(-1))
        self.assertEqual(verdict(table, [GREAT]), say(GREAT - 1))
        self.assertEqual(answer(table, [-6]), -GREAT)

    def test_domains_of_1_and_40_words(self):
        words = many_words(40)
        full = Words(words)
        table = Table("t", ["a", "b"], [Words(["so"]), full], full, "high", [([[(0, 0)], [(0, 39)]], 3), ([[(0, 0)], [(39, 39)]], 39)])
        self.assertEqual(answer(table, ["so", words[39]]), words[39])
        self.assertEqual(answer(table, ["so", words[38]]), words[3])


class Refusals(RefusalCase):
    def test_name(self):
        for name in ("", "not", "Fee", "fee1", "a b", "fee\n", "-", "abcdefghijklm"):
            self.assert_refused(BadName, Table, name, ["age"], [AGE], FEE, "first", [])
            self.assert_refused(BadName, Table, "fee", [name], [AGE], FEE, "first", [])
            self.assert_refused(BadName, Table, "fee", ["age", name], [AGE, HUE], FEE, "first", [])
        for name in ("a", "nota", "abcdefghijkl"):
            self.assertEqual(Table(name, ["age"], [AGE], FEE, "first", []).name, name)
            self.assertEqual(Table("fee", [name], [AGE], FEE, "first", []).names, [name])

    def test_names_alike(self):
        self.assert_refused(BadName, Table, "fee", ["fee"], [AGE], FEE, "first", [])
        self.assert_refused(BadName, Table, "fee", ["age", "fee"], [AGE, HUE], FEE, "first", [])
        self.assert_refused(BadName, Table, "fee", ["age", "age"], [AGE, AGE], FEE, "first", [])
        self.assert_refused(BadName, Table, "fee", ["a", "b", "c", "a"], [AGE] * 4, FEE, "first", [])

    def test_way(self):
        for way in ("", "last", "First", "sum ", "none", "not", "add"):
            self.assert_refused(BadWay, fee_table, way)

    def test_sum_over_words(self):
        for words in (["so"], ["red", "green"]):
            self.assert_refused(BadWay, Table, "t", ["age"], [AGE], Words(words), "sum", [])
            for way in ("first", "only", "like", "low", "high"):
                self.assertEqual(Table("t", ["age"], [AGE], Words(words), way, []).way, way)
        self.assertEqual(Table("t", ["hue"], [HUE], AGE, "sum", []).way, "sum")

    def test_cells_not_as_many_as_columns(self):
        for cells in ([], [ALL_AGES], [ALL_AGES, ALL_HUES, ALL_HUES], [[]], [[], [], []]):
            self.assert_refused(BadRow, fee_table, "first", [(cells, 0)])

    def test_spans_outside_of_the_domain(self):
        for spans in ([(-1, 5)], [(5, 121)], [(-1, -1)], [(121, 121)], [(-1, 121)], [(3, 4), (9, 121)], [(-1, 0), (4, 5)],
                      [(1, 1), (3, 3), (200, 300)], [(-GREAT, GREAT)]):
            self.assert_refused(BadRow, fee_table, "first", [([spans, ALL_HUES], 0)])
        for spans in ([(-1, 0)], [(0, 3)], [(3, 3)], [(0, 0), (2, 3)]):
            self.assert_refused(BadRow, fee_table, "first", [([ALL_AGES, spans], 0)])
        # Each column is held to its own domain.
        self.assert_refused(BadRow, fee_table, "first", [([ALL_HUES, ALL_AGES], 0)])

    def test_spans_up_to_the_ends(self):
        for spans in ([(0, 120)], [(0, 0)], [(120, 120)], [(0, 0), (120, 120)], []):
            self.assertEqual(fee_table("first", [([spans, ALL_HUES], 0)]).rows, [([spans, ALL_HUES], 0)])

    def test_code_that_is_none_of_the_outcome(self):
        for code in (-51, 51, GREAT, -GREAT):
            self.assert_refused(BadRow, fee_table, "first", [([ALL_AGES, ALL_HUES], code)])
        for code in (-50, 50):
            self.assertEqual(fee_table("first", [([ALL_AGES, ALL_HUES], code)]).rows[0][1], code)
        for code in (-1, 3):
            self.assert_refused(BadRow, Table, "t", ["age"], [AGE], HUE, "first", [([ALL_AGES], code)])
        self.assertEqual(Table("t", ["age"], [AGE], HUE, "first", [([ALL_AGES], 2)]).rows[0][1], 2)

    def test_true_and_false_are_no_codes(self):
        for code in (True, False):
            self.assert_refused(BadRow, fee_table, "first", [([ALL_AGES, ALL_HUES], code)])

    def test_any_row(self):
        good = ([ALL_AGES, ALL_HUES], 0)
        for bad in (([ALL_AGES], 0), ([[(0, 121)], ALL_HUES], 0), ([ALL_AGES, [(0, 3)]], 0), ([ALL_AGES, ALL_HUES], 51)):
            for rows in ([bad], [bad, good], [good, bad], [good, good, bad], [good, bad, good]):
                self.assert_refused(BadRow, fee_table, "first", rows)

    def test_order(self):
        bad_row = ([ALL_AGES], 99)
        many_rows = [bad_row] * 201
        many_names = many_words(5)
        # From all faults on, the one that is due first is mended each time.
        self.assert_refused(BadName, Table, "Fee", many_names, [AGE] * 5, HUE, "last", many_rows)
        self.assert_refused(BadName, Table, "aa", many_names, [AGE] * 5, HUE, "last", many_rows)
        self.assert_refused(BadName, Table, "fee", many_names[:4] + ["aa"], [AGE] * 5, HUE, "last", many_rows)
        self.assert_refused(BadName, Table, "Fee", [], [], HUE, "last", many_rows)
        self.assert_refused(TooMany, Table, "fee", many_names, [AGE] * 5, HUE, "last", many_rows)
        self.assert_refused(TooMany, Table, "fee", many_names, [AGE] * 5, HUE, "last", [bad_row])
        self.assert_refused(TooMany, Table, "fee", [], [], HUE, "sum", [bad_row])
        self.assert_refused(TooMany, Table, "fee", ["age", "hue"], [AGE, HUE], HUE, "last", many_rows)
        self.assert_refused(TooMany, Table, "fee", ["age", "hue"], [AGE, HUE], HUE, "sum", many_rows)
        self.assert_refused(BadWay, Table, "fee", ["age", "hue"], [AGE, HUE], HUE, "last", [bad_row] * 200)
        self.assert_refused(BadWay, Table, "fee", ["age", "hue"], [AGE, HUE], HUE, "sum", [bad_row] * 200)
        self.assert_refused(BadRow, Table, "fee", ["age", "hue"], [AGE, HUE], HUE, "first", [bad_row] * 200)


class Judging(RefusalCase):
    def test_fits(self):
        table = fee_table()
        for k, codes, expected in (
            (0, [0, 0], True), (0, [17, 2], True), (0, [18, 2], False),
            (1, [10, 0], True), (1, [9, 0], False), (1, [64, 2], True), (1, [65, 2], False), (1, [30, 1], False),
            (2, [9, 1], True), (2, [10, 1], False), (2, [64, 1], False), (2, [65, 1], True), (2, [120, 1], True),
            (2, [65, 0], False), (3, [5, 1], False), (4, [77, 2], True), (4, [77, 1], False),
        ):
            self.assertIs(fits(table, k, codes), expected, (k, codes))

    def test_row_with_an_empty_set_fits_nothing(self):
        table = Table("t", ["a", "b"], [HUE, HUE], FEE, "first", [([[], ALL_HUES], 1), ([ALL_HUES, []], 1), ([[], []], 1)])
        for codes in itertools.product(range(3), repeat=2):
            self.assertEqual(mask(table, list(codes)), 0)
            for k in range(3):
                self.assertIs(fits(table, k, list(codes)), False)

    def test_mask(self):
        table = fee_table()
        for codes, expected in (([0, 0], 1), ([12, 0], 0b11), ([12, 2], 0b10011), ([5, 1], 0b101), ([30, 1], 0),
                                ([100, 2], 0b10000), ([100, 1], 0b100), ([5, 2], 0b10001)):
            told = mask(table, codes)
            self.assertEqual(told, expected, codes)
            self.assertIs(type(told), int)

    def test_judged(self):
        # The codes of the rows: 5, 20, 20, 7, -30.
        for rows, verdicts in (
            (0, (NONE, NONE, NONE, NONE, NONE, NONE)),
            (0b1, (say(5), say(5), say(5), say(5), say(5), say(5))),
            (0b10000, (say(-30), say(-30), say(-30), say(-30), say(-30), say(-30))),
            (0b110, (say(20), CLASH, say(20), say(20), say(20), say(40))),
            (0b111, (say(5), CLASH, CLASH, say(5), say(20), say(45))),
            (0b1111, (say(5), CLASH, CLASH, say(5), say(20), say(50))),
            (0b11000, (say(7), CLASH, CLASH, say(-30), say(7), say(-23))),
            (0b11111, (say(5), CLASH, CLASH, say(-30), say(20), say(22))),
        ):
            for way, expected in zip(WAYS, verdicts):
                told = judged(fee_table(way), rows)
                self.assertEqual(told, expected, (way, rows))
                self.assert_kinds(told, (str, int))

    def test_first_goes_by_the_order_of_rows(self):
        rows = [([ALL_AGES, ALL_HUES], code) for code in (9, 3, 8)]
        for bits, code in ((0b111, 9), (0b110, 3), (0b100, 8), (0b101, 9), (0b010, 3)):
            self.assertEqual(judged(fee_table("first", rows), bits), say(code))

    def test_verdict(self):
        for codes, verdicts in (
            ([30, 1], (NONE, NONE, NONE, NONE, NONE, NONE)),
            ([12, 0], (say(5), CLASH, CLASH, say(5), say(20), say(25))),
            ([12, 2], (say(5), CLASH, CLASH, say(-30), say(20), say(-5))),
            ([100, 1], (say(20), say(20), say(20), say(20), say(20), say(20))),
            ([100, 2], (say(-30), say(-30), say(-30), say(-30), say(-30), say(-30))),
        ):
            for way, expected in zip(WAYS, verdicts):
                told = verdict(fee_table(way), codes)
                self.assertEqual(told, expected, (way, codes))
                self.assert_kinds(told, (str, int))

    def test_many_tables_row_by_row(self):
        chance = random.Random(20261116)
        for turn in range(60):
            columns = chance.randint(1, 4)
            domains = [Numbers(-chance.randint(0, 2), chance.randint(0, 2)) for column in range(columns)]
            ranges = [range(domain.low, domain.high + 1) for domain in domains]
            rows = []
            for k in range(chance.randint(0, 7)):
                cells = [spans_of([code for code in codes if chance.random() < 0.7]) for codes in ranges]
                rows.append((cells, chance.randint(-4, 4)))
            way = chance.choice(WAYS)
            table = Table("t", many_words(columns), domains, Numbers(-4, 4), way, rows)
            for codes in itertools.product(*ranges):
                bits = plain_mask(rows, codes)
                said = [code for k, (cells, code) in enumerate(rows) if bits >> k & 1]
                self.assertEqual(mask(table, list(codes)), bits)
                self.assertEqual(verdict(table, list(codes)), way_by(way).verdict(said, Numbers(-4, 4)))

    def test_nothing_is_changed(self):
        table = fee_table()
        before = copy.deepcopy(table.rows)
        codes = [12, 2]
        for turn in range(2):
            self.assertIs(fits(table, 1, codes), True)
            self.assertEqual(mask(table, codes), 0b10011)
            self.assertEqual(verdict(table, codes), say(5))
            self.assertEqual(judged(table, 0b10), say(20))
        self.assertEqual(codes, [12, 2])
        self.assertEqual(table.rows, before)


class Answering(RefusalCase):
    def test_coded(self):
        table = fee_table()
        values = [12, "blue"]
        told = coded(table, values)
        self.assertEqual(told, [12, 2])
        self.assert_kinds(told, [int])
        self.assertEqual(values, [12, "blue"])
        self.assertEqual(coded(table, [0, "red"]), [0, 0])
        self.assertEqual(coded(table, [120, "green"]), [120, 1])
        shifted = Table("t", ["a", "b"], [Numbers(5, 9), Numbers(-9, -5)], FEE, "first", [])
        self.assertEqual(coded(shifted, [5, -5]), [5, -5])

    def test_value_that_is_not_borne(self):
        table = fee_table()
        for value in (-1, 121, "red", "12", True, False, None, "", GREAT):
            self.assert_refused(Outside, coded, table, [value, "red"])
            self.assert_refused(Outside, answer, table, [value, "red"])
        for value in ("pink", "Red", "", 0, 1, True, False, None, "not", "-"):
            self.assert_refused(Outside, coded, table, [12, value])
            self.assert_refused(Outside, answer, table, [12, value])

    def test_answer_number(self):
        for way, expected in (("first", 5), ("low", 5), ("high", 20), ("sum", 25)):
            told = answer(fee_table(way), [12, "red"])
            self.assertEqual(told, expected)
            self.assertIs(type(told), int)
        self.assertEqual(answer(fee_table("like", FEE_ROWS[1:3]), [100, "green"]), 20)

    def test_answer_nought(self):
        self.assertEqual(answer(fee_table("first", [([ALL_AGES, ALL_HUES], 0)]), [1, "red"]), 0)

    def test_answer_word(self):
        rows = [([[(0, 9)]], 0), ([[(5, 20)]], 2)]
        for way, at_3, at_7 in (("first", "red", "red"), ("low", "red", "red"), ("high", "red", "blue")):
            table = Table("t", ["age"], [AGE], HUE, way, rows)
            self.assertEqual(answer(table, [3]), at_3)
            self.assertEqual(answer(table, [7]), at_7)
            self.assertEqual(answer(table, [15]), "blue")

    def test_hole(self):
        for way in WAYS:
            self.assert_refused(Hole, answer, fee_table(way), [30, "green"])
            self.assert_refused(Hole, answer, fee_table(way, []), [30, "green"])

    def test_clash(self):
        for way in ("only", "like"):
            self.assert_refused(Clash, answer, fee_table(way), [12, "red"])
        same = [([ALL_AGES, ALL_HUES], 1)] * 2
        self.assert_refused(Clash, answer, fee_table("only", same), [12, "red"])
        self.assertEqual(answer(fee_table("like", same), [12, "red"]), 1)

    def test_outside_ahead_of_hole_and_clash(self):
        self.assert_refused(Outside, answer, fee_table("only", []), [121, "red"])
        self.assert_refused(Outside, answer, fee_table("only", [([ALL_AGES, ALL_HUES], 1)] * 2), [12, "pink"])


class WithRows(RefusalCase):
    def test_same_but_for_the_rows(self):
        table = fee_table("sum")
        rows = [([[(1, 2)], [(0, 1)]], 9)]
        other = with_rows(table, rows)
        self.assertIs(type(other), Table)
        self.assertIsNot(other, table)
        self.assertEqual(table_state(other), ("fee", ["age", "hue"], [AGE, HUE], FEE, "sum", rows))
        self.assertEqual(table_state(table), ("fee", ["age", "hue"], [AGE, HUE], FEE, "sum", FEE_ROWS))
        self.assertEqual(with_rows(table, []).rows, [])
        self.assertEqual(verdict(other, [1, 1]), say(9))

    def test_lists_of_its_own(self):
        table = fee_table()
        rows = copy.deepcopy(FEE_ROWS)
        other = with_rows(table, rows)
        again = with_rows(table, table.rows)
        rows[0][0][0].append((50, 60))
        rows.pop()
        self.assertEqual(other.rows, FEE_ROWS)
        self.assertIsNot(other.names, table.names)
        self.assertIsNot(other.domains, table.domains)
        self.assertIsNot(again.rows, table.rows)
        for k, row in enumerate(again.rows):
            self.assertIsNot(row[0], table.rows[k][0])
            for own, others in zip(row[0], table.rows[k][0]):
                self.assertIsNot(own, others)

    def test_refuses_as_table_does(self):
        table = fee_table()
        row = ([ALL_AGES, ALL_HUES], 0)
        self.assertEqual(len(with_rows(table, [row] * 200).rows), 200)
        self.assert_refused(TooMany, with_rows, table, [row] * 201)
        self.assert_refused(TooMany, with_rows, table, [([], 99)] * 201)
        for bad in (([ALL_AGES], 0), ([[(0, 121)], ALL_HUES], 0), ([ALL_AGES, ALL_HUES], 51)):
            self.assert_refused(BadRow, with_rows, table, [row, bad])
        self.assertEqual(table.rows, FEE_ROWS)


if __name__ == "__main__":
    unittest.main()
