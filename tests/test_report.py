import copy
import itertools
import unittest

from helpers import (
    AGE, CLASH, FEE, GRAINS_ABOVE_300, GRAINS_OF_300, GREAT, HUE, NONE, WAYS, RefusalCase, age_table, book_state,
    fee_table, many_words, plain_needs, rough_book, say, table_of_200_rows, table_of_grain, wide_table, words_table,
)
from rowjudge.books import Book, table_of
from rowjudge.domains import Numbers, Words
from rowjudge.errors import NoTable, TooFine, TooMany, Unlike
from rowjudge.finds import clashes, holes, idle
from rowjudge.reading import read_book
from rowjudge.report import box_text, change_lines, report, table_lines, verdict_text
from rowjudge.tables import Table
from rowjudge.unfold import compared

TEXT = "\n".join([
    "fact hue red, green, blue",
    "fact age 0..120",
    "table due: fee, age -> red, green, blue by first",
    "when ..5 | - -> blue",
    "when 20 | 18..90 -> green",
    "table fee: age, hue -> 0..50 by only",
    "when ..17 | not green -> 5",
    "when 10..64 | red -> 20",
    "when not - | - -> 9",
])
BOOK = read_book(TEXT)
FEE_LINES = ["table fee", "hole ..17 | green", "hole 18..64 | green, blue", "hole 65.. | -", "clash 10..17 | red by 0, 1", "idle 2"]


def plain_field(domain, low, high):
    # [2.5] for one pair, by its words.
    if (low, high) == (domain.low, domain.high):
        return "-"
    if isinstance(domain, Words):
        return ", ".join(domain.words[low:high + 1])
    if low == high:
        return str(low)
    if low == domain.low:
        return f"..{high}"
    return f"{low}.." if high == domain.high else f"{low}..{high}"


def plain_box(domains, box):
    return " | ".join(plain_field(domain, low, high) for domain, (low, high) in zip(domains, box))


def plain_said(outcome, verdict):
    return f"say {outcome.worth(verdict[1])}" if verdict[0] == "say" else verdict[0]


def plain_lines(table):
    lines = ["table " + table.name]
    lines += ["hole " + plain_box(table.domains, box) for box in holes(table)]
    for box, rows in clashes(table):
        numbers = ", ".join(str(k) for k in range(200) if rows & 1 << k)
        lines.append("clash " + plain_box(table.domains, box) + " by " + numbers)
    return lines + [f"idle {k}" for k in idle(table)]


class BoxText(RefusalCase):
    def test_numbers(self):
        for box, due in (((5, 9), "5..9"), ((0, 9), "..9"), ((5, 120), "5.."), ((0, 120), "-"), ((7, 7), "7"), ((0, 0), "0"),
                         ((120, 120), "120"), ((0, 119), "..119"), ((1, 120), "1..")):
            self.assertEqual(box_text([AGE], (box,)), due)

    def test_words(self):
        for box, due in (((0, 0), "red"), ((1, 1), "green"), ((0, 1), "red, green"), ((1, 2), "green, blue"), ((0, 2), "-")):
            self.assertEqual(box_text([HUE], (box,)), due)

    def test_domains_of_one_code(self):
        self.assertEqual(box_text([Numbers(7, 7), Words(["so"])], ((7, 7), (0, 0))), "- | -")

    def test_several_columns(self):
        self.assertEqual(box_text([AGE, HUE, FEE], ((5, 9), (0, 1), (-50, -1))), "5..9 | red, green | ..-1")
        self.assertEqual(box_text([HUE] * 4, ((0, 2), (2, 2), (0, 2), (0, 1))), "- | blue | - | red, green")
        self.assertEqual(box_text([AGE] * 6, ((0, 120),) * 6), "- | - | - | - | - | -")

    def test_60_figures(self):
        wide = Numbers(-GREAT, GREAT)
        self.assertEqual(box_text([wide, wide], ((1 - GREAT, GREAT - 1), (GREAT, GREAT))), f"{1 - GREAT}..{GREAT - 1} | {GREAT}")

    def test_all_pairs(self):
        for domain in (Numbers(-2, 3), Words(many_words(5))):
            codes = range(domain.low, domain.high + 1)
            for low, high in itertools.combinations_with_replacement(codes, 2):
                due = plain_field(domain, low, high)
                self.assertEqual(box_text([domain], ((low, high),)), due)
                self.assertEqual(box_text([domain, domain], ((low, high), (low, high))), due + " | " + due)


class VerdictText(RefusalCase):
    def test_each_kind(self):
        self.assertEqual(verdict_text(FEE, say(5)), "say 5")
        self.assertEqual(verdict_text(FEE, say(-50)), "say -50")
        self.assertEqual(verdict_text(FEE, say(0)), "say 0")
        self.assertEqual(verdict_text(HUE, say(0)), "say red")
        self.assertEqual(verdict_text(HUE, say(2)), "say blue")
        for outcome in (FEE, HUE):
            self.assertEqual(verdict_text(outcome, NONE), "none")
            self.assertEqual(verdict_text(outcome, CLASH), "clash")

    def test_60_figures(self):
        self.assertEqual(verdict_text(Numbers(-GREAT, GREAT), say(-GREAT)), f"say {-GREAT}")


class TableLines(RefusalCase):
    def test_plain(self):
        self.assertEqual(table_lines(fee_table()), ["table fee", "hole 18..64 | green", "hole 65.. | red", "idle 3"])

    def test_every_kind_in_its_order(self):
        self.assertEqual(table_lines(table_of(BOOK, "fee")), FEE_LINES)

    def test_rows_of_a_clash(self):
        rows = [([(0, 9)], 1), ([(50, 60)], 2), ([(0, 5)], 1), ([], 3), ([(3, 120)], 2)]
        self.assertEqual(table_lines(age_table("only", rows)), [
            "table t", "clash ..2 by 0, 2", "clash 3..5 by 0, 2, 4", "clash 6..9 by 0, 4", "clash 50..60 by 1, 4", "idle 3",
        ])

    def test_rows_beyond_9(self):
        rows = [([(k, k)], 1) for k in range(11)] + [([(10, 10)], 2)]
        self.assertEqual(table_lines(age_table("like", rows)), ["table t", "hole 11..", "clash 10 by 10, 11"])
        rows = [([(0, 120)], 1)] * 12
        self.assertEqual(table_lines(age_table("first", rows)), ["table t"] + [f"idle {k}" for k in range(12)])

    def test_nothing_to_tell(self):
        self.assertEqual(table_lines(age_table("only", [([(0, 120)], 1)])), ["table t"])

    def test_no_rows(self):
        self.assertEqual(table_lines(fee_table("first", [])), ["table fee", "hole - | -"])

    def test_words(self):
        rows = [([[(0, 0)], [(0, 1)]], 0), ([[(0, 1)], [(1, 1)]], 1)]
        table = Table("t", ["a", "b"], [HUE, Words(["x", "y", "z"])], HUE, "like", rows)
        self.assertEqual(table_lines(table), plain_lines(table))
        self.assertIn("clash red | y by 0, 1", table_lines(table))
        self.assertIn("hole blue | -", table_lines(table))

    def test_all_ways(self):
        for way in WAYS:
            for table in (fee_table(way), wide_table(way), table_of_200_rows(way)):
                self.assertEqual(table_lines(table), plain_lines(table))
        for way in ("first", "only", "like", "low", "high"):
            self.assertEqual(table_lines(words_table(way)), plain_lines(words_table(way)))

    def test_rough_tables(self):
        seen = set()
        for seed in range(60):
            for table in rough_book(seed).tables:
                lines = table_lines(table)
                self.assertEqual(lines, plain_lines(table))
                seen.update(line.split(" ")[0] for line in lines)
        self.assertEqual(seen, {"table", "hole", "clash", "idle"})

    def test_too_fine(self):
        for counts in GRAINS_ABOVE_300:
            for way in ("first", "only"):
                self.assertEqual(table_lines(table_of_grain(counts, way)), ["table t", "too fine"])

    def test_grain_of_300(self):
        for counts in GRAINS_OF_300:
            table = table_of_grain(counts)
            lines = table_lines(table)
            self.assertNotIn("too fine", lines)
            self.assertEqual(lines, plain_lines(table))

    def test_kinds(self):
        self.assert_kinds(table_lines(fee_table()), [str])
        self.assert_kinds(table_lines(table_of_grain([301])), [str])


class Report(RefusalCase):
    def test_plain(self):
        # Each table by itself: `due` is looked at over all codes of `fee`, said by it or not.
        self.assertEqual(report(BOOK), [
            "table due",
            "hole 6..19 | -",
            "hole 20 | ..17",
            "hole 20 | 91..",
            "hole 21.. | -",
        ] + FEE_LINES)

    def test_nothing(self):
        self.assertEqual(report(Book([], [])), [])
        self.assertEqual(report(Book([("age", AGE)], [])), [])

    def test_in_the_order_of_the_book(self):
        for seed in range(60):
            book = rough_book(seed)
            lines = []
            for table in book.tables:
                lines += plain_lines(table)
            self.assertEqual(report(book), lines)
            self.assert_kinds(report(book), [str])

    def test_too_fine_among_others(self):
        fine = table_of_grain([301])
        facts = [("age", AGE), ("hue", HUE), ("aa", fine.domains[0])]
        for tables in ([fine, fee_table()], [fee_table(), fine]):
            lines = []
            for table in tables:
                lines += ["table t", "too fine"] if table == fine else plain_lines(table)
            self.assertEqual(report(Book(facts, tables)), lines)

    def test_30_tables(self):
        tables = [Table("t" + name, ["age"], [AGE], FEE, "first", []) for name in many_words(30)]
        lines = report(Book([("age", AGE)], tables))
        self.assertEqual(lines[0::2], ["table " + table.name for table in tables])
        self.assertEqual(lines[1::2], ["hole -"] * 30)


class ChangeLines(RefusalCase):
    def test_plain(self):
        other = read_book(TEXT.replace("18..90 -> green", "18..40 -> green").replace("not green -> 5", "- -> 5"))
        self.assertEqual(change_lines(BOOK, other, "due"), [
            "red | 41..64: say green to none",
            "green | ..17: none to say blue",
        ])
        self.assertEqual(change_lines(other, BOOK, "due"), [
            "red | 41..64: none to say green",
            "green | ..17: say blue to none",
        ])
        self.assertEqual(change_lines(BOOK, other, "fee"), ["green | ..17: none to say 5"])

    def test_clashes(self):
        other = read_book(TEXT.replace("by only", "by first"))
        self.assertEqual(change_lines(BOOK, other, "fee"), ["red | 10..17: clash to say 5"])
        self.assertEqual(change_lines(other, BOOK, "due"), ["red | 10..17: say blue to clash"])
        none = read_book("\n".join(TEXT.split("\n")[:6]))
        self.assertIn("red | 10..17: clash to none", change_lines(BOOK, none, "fee"))

    def test_equal_books(self):
        for name in ("due", "fee"):
            self.assertEqual(change_lines(BOOK, BOOK, name), [])
            self.assertEqual(change_lines(BOOK, read_book(TEXT), name), [])

    def test_rough_books(self):
        told = 0
        for seed in range(80):
            book = rough_book(seed)
            other = Book(book.facts, [
                Table(table.name, table.names, table.domains, table.outcome, "first", table.rows[::-1]) for table in book.tables
            ])
            for table in book.tables:
                domains = [dict(book.facts)[fact] for fact in plain_needs(book, table.name)]
                lines = []
                for box, old, new in compared(book, other, table.name):
                    told += 1
                    verdicts = plain_said(table.outcome, old) + " to " + plain_said(table.outcome, new)
                    lines.append(plain_box(domains, box) + ": " + verdicts)
                self.assertEqual(change_lines(book, other, table.name), lines)
        self.assertGreater(told, 50)

    def test_kinds(self):
        other = read_book(TEXT.replace("90", "40"))
        self.assert_kinds(change_lines(BOOK, other, "due"), [str])
        self.assertEqual(change_lines(BOOK, other, "fee"), [])

    def test_refusals(self):
        for name in ("nowhere", "age", ""):
            self.assert_refused(NoTable, change_lines, BOOK, BOOK, name)
        less = read_book("fact hue red, green, blue\nfact age 0..120")
        self.assert_refused(NoTable, change_lines, BOOK, less, "due")
        self.assert_refused(NoTable, change_lines, less, BOOK, "due")
        self.assert_refused(Unlike, change_lines, BOOK, read_book(TEXT.replace("0..120", "0..121")), "due")
        self.assert_refused(Unlike, change_lines, BOOK, Book(BOOK.facts[::-1], BOOK.tables), "due")

    def test_refusals_of_the_form(self):
        table = table_of_grain([7, 43])
        fine = Book(list(zip(table.names, table.domains)), [table])
        self.assert_refused(TooFine, change_lines, fine, fine, "t")
        names = many_words(7)
        inner = Table("inner", names[:4], [AGE] * 4, AGE, "first", [])
        top = Table("top", names[4:] + ["inner"], [AGE] * 4, AGE, "first", [])
        wide = Book([(name, AGE) for name in names], [inner, top])
        self.assert_refused(TooMany, change_lines, wide, wide, "top")
        self.assertEqual(change_lines(wide, wide, "inner"), [])
        self.assert_refused(Unlike, change_lines, wide, Book(wide.facts[::-1], wide.tables), "top")


class NothingIsChanged(RefusalCase):
    def test_what_is_handed_in(self):
        book = read_book(TEXT)
        other = read_book(TEXT.replace("90", "40"))
        kept = [copy.deepcopy([table.rows for table in some.tables]) for some in (book, other)]
        states = [book_state(some) for some in (book, other)]
        domains = [AGE, HUE]
        for turn in range(2):
            report(book)
            table_lines(book.tables[0])
            change_lines(book, other, "due")
            box_text(domains, ((0, 3), (1, 1)))
        self.assertEqual([[table.rows for table in some.tables] for some in (book, other)], kept)
        self.assertEqual([book_state(some) for some in (book, other)], states)
        self.assertEqual(domains, [AGE, HUE])

    def test_what_is_told_is_the_askers_own(self):
        other = read_book(TEXT.replace("90", "40"))
        for call in (lambda: report(BOOK), lambda: table_lines(BOOK.tables[1]), lambda: change_lines(BOOK, other, "due")):
            due = list(call())
            call().clear()
            self.assertEqual(call(), due)
            self.assertTrue(due)


if __name__ == "__main__":
    unittest.main()
