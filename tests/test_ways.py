import itertools
import unittest

from helpers import CLASH, GREAT, NONE, PLAIN, SIGNS, RefusalCase, say, with_sign_at_any_place
from rowjudge.domains import Numbers, Words
from rowjudge.errors import BadWay
from rowjudge.ways import First, High, Like, Low, Only, Sum, Way, way_by

KINDS = {"first": First, "only": Only, "like": Like, "low": Low, "high": High, "sum": Sum}
SCORE = Numbers(-10, 10)
HUE = Words(["red", "green", "blue"])


class WayBy(RefusalCase):
    def test_each_name(self):
        for name, kind in KINDS.items():
            way = way_by(name)
            self.assertIs(type(way), kind)
            self.assertIsInstance(way, Way)
            self.assertEqual(way.called, name)

    def test_made_without_an_argument(self):
        for name, kind in KINDS.items():
            self.assertEqual(kind().called, name)
            self.assertTrue(issubclass(kind, Way))

    def test_new_each_time(self):
        for name in KINDS:
            self.assertIsNot(way_by(name), way_by(name))

    def test_any_other_text(self):
        for name in ("", "First", "SUM", "last", "min", "max", "add", "way", "firs", "firstt", "first only", "none", "clash",
                     "called", "first, only", "not", "-", "0"):
            self.assert_refused(BadWay, way_by, name)

    def test_sign_at_any_place(self):
        for name in KINDS:
            for sign in SIGNS:
                for text in with_sign_at_any_place(name, sign):
                    if text not in KINDS:
                        self.assert_refused(BadWay, way_by, text)


class Verdicts(RefusalCase):
    def assert_told(self, name, codes, outcome, expected):
        for way in (way_by(name), KINDS[name]()):
            handed = list(codes)
            told = way.verdict(handed, outcome)
            self.assertEqual(told, expected, (name, codes))
            self.assert_kinds(told, (str, int))
            self.assertEqual(handed, codes)
            if codes:
                told = way.chosen(handed, outcome)
                self.assertEqual(told, expected, (name, codes))
                self.assert_kinds(told, (str, int))
                self.assertEqual(handed, codes)

    def test_no_code(self):
        for name in KINDS:
            for outcome in (SCORE, Numbers(5, 9), Numbers(-9, -5), HUE):
                self.assert_told(name, [], outcome, NONE)

    def test_one_code(self):
        for name in KINDS:
            for code in (-10, -1, 0, 1, 10):
                self.assert_told(name, [code], SCORE, say(code))

    def test_first(self):
        self.assert_told("first", [3, 1, 2], SCORE, say(3))
        self.assert_told("first", [-1, 5], SCORE, say(-1))
        self.assert_told("first", [0, 0], SCORE, say(0))

    def test_only(self):
        self.assert_told("only", [3, 1], SCORE, CLASH)
        self.assert_told("only", [3, 3], SCORE, CLASH)
        self.assert_told("only", [0, 0, 0], SCORE, CLASH)

    def test_like(self):
        self.assert_told("like", [3, 3], SCORE, say(3))
        self.assert_told("like", [3, 3, 3, 3], SCORE, say(3))
        self.assert_told("like", [3, 4], SCORE, CLASH)
        self.assert_told("like", [3, 3, 4], SCORE, CLASH)
        self.assert_told("like", [4, 3, 3], SCORE, CLASH)
        self.assert_told("like", [3, 4, 3], SCORE, CLASH)

    def test_low_and_high(self):
        self.assert_told("low", [3, -1, 2], SCORE, say(-1))
        self.assert_told("high", [3, -1, 5, 2], SCORE, say(5))
        self.assert_told("low", [3, 3], SCORE, say(3))
        self.assert_told("high", [3, 3], SCORE, say(3))

    def test_sum_within(self):
        self.assert_told("sum", [3, 1, 2], SCORE, say(6))
        self.assert_told("sum", [3, -3], SCORE, say(0))
        self.assert_told("sum", [4, 4], SCORE, say(8))
        self.assert_told("sum", [10, 10, -10, -10], SCORE, say(0))
        self.assert_told("sum", [5, 5], SCORE, say(10))
        self.assert_told("sum", [-5, -5], SCORE, say(-10))

    def test_sum_below_and_above(self):
        self.assert_told("sum", [5, 6], SCORE, say(10))
        self.assert_told("sum", [-5, -6], SCORE, say(-10))
        self.assert_told("sum", [3, 3], Numbers(1, 5), say(5))
        self.assert_told("sum", [3, 4], Numbers(3, 4), say(4))
        self.assert_told("sum", [-3, -4], Numbers(-4, -3), say(-4))
        self.assert_told("sum", [7, 7, 7], Numbers(7, 7), say(7))
        # Only the whole sum is held to the outcome, not the sums on the way.
        self.assert_told("sum", [10, 10, -10], SCORE, say(10))
        self.assert_told("sum", [10, 10, -15], Numbers(-15, 10), say(5))

    def test_words(self):
        self.assert_told("first", [2, 0], HUE, say(2))
        self.assert_told("only", [2, 0], HUE, CLASH)
        self.assert_told("like", [1, 1], HUE, say(1))
        self.assert_told("low", [2, 0, 1], HUE, say(0))
        self.assert_told("high", [1, 2, 0], HUE, say(2))

    def test_all_short_lists(self):
        for outcome in (Numbers(-2, 2), Numbers(1, 3), Numbers(0, 0)):
            codes_of = range(outcome.low, outcome.high + 1)
            for size in range(1, 5):
                for codes in itertools.product(codes_of, repeat=size):
                    for name in KINDS:
                        self.assert_told(name, list(codes), outcome, PLAIN[name](codes, outcome))

    def test_60_figures(self):
        wide = Numbers(-GREAT, GREAT)
        self.assert_told("sum", [GREAT, GREAT, -GREAT], wide, say(GREAT))
        self.assert_told("sum", [GREAT] * 200, wide, say(GREAT))
        self.assert_told("sum", [-GREAT] * 200, wide, say(-GREAT))
        self.assert_told("sum", [GREAT, -1], wide, say(GREAT - 1))
        self.assert_told("low", [GREAT, GREAT - 1], wide, say(GREAT - 1))
        self.assert_told("high", [-GREAT, 1 - GREAT], wide, say(1 - GREAT))
        self.assert_told("like", [GREAT, GREAT - 1], wide, CLASH)

    def test_200_codes(self):
        codes = [k % 7 for k in range(200)]
        for name in KINDS:
            self.assert_told(name, codes, Numbers(0, 1000), PLAIN[name](codes, Numbers(0, 1000)))


if __name__ == "__main__":
    unittest.main()
