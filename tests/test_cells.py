import itertools
import re
import unittest

from helpers import GREAT, SIGNS, RefusalCase, many_words, spans_of, with_sign_at_any_place
from rowjudge.cells import read_cell, read_value, show_cell, show_value
from rowjudge.domains import Numbers, Words
from rowjudge.errors import BadCell, BadNumber, Outside

HUE = Words(["red", "green", "blue", "nothing", "grey"])
AGE = Numbers(-20, 120)
NUMBER = r"(0|-?[1-9][0-9]{0,59})"
PART = rf"({NUMBER}\.\.{NUMBER}|\.\.{NUMBER}|{NUMBER}\.\.|{NUMBER})"


def plain_reading(domain, text):
    # The plain reading of [2.4] in a small domain of numbers, code by code; None where the text is refused.
    codes = range(domain.low, domain.high + 1)
    found = re.fullmatch(rf"(not )?(-|{PART}(, {PART})*)", text)
    if not found or "\n" in text:
        return None
    held = set(codes) if found[2] == "-" else set()
    for part in [] if found[2] == "-" else found[2].split(", "):
        ends = part.split("..")
        low = int(ends[0] or domain.low)
        high = int(ends[-1] or domain.high)
        if low > high or low not in codes or high not in codes:
            return None
        held |= set(range(low, high + 1))
    return spans_of(set(codes) - held if found[1] else held)


def all_sets(domain):
    codes = range(domain.low, domain.high + 1)
    for size in range(len(codes) + 1):
        yield from itertools.combinations(codes, size)


class ReadCellOfNumbers(RefusalCase):
    def assert_read(self, text, spans):
        told = read_cell(AGE, text)
        self.assertEqual(told, spans, text)
        self.assert_kinds(told, [(int, int)])

    def test_all(self):
        self.assert_read("-", [(-20, 120)])

    def test_not_all(self):
        self.assert_read("not -", [])

    def test_one_number(self):
        for number in (-20, -1, 0, 1, 7, 120):
            self.assert_read(str(number), [(number, number)])

    def test_from_to(self):
        self.assert_read("3..7", [(3, 7)])
        self.assert_read("-7..-3", [(-7, -3)])
        self.assert_read("-7..3", [(-7, 3)])
        self.assert_read("5..5", [(5, 5)])
        self.assert_read("-20..120", [(-20, 120)])

    def test_up_to(self):
        self.assert_read("..7", [(-20, 7)])
        self.assert_read("..-7", [(-20, -7)])
        self.assert_read("..-20", [(-20, -20)])
        self.assert_read("..120", [(-20, 120)])

    def test_from_on(self):
        self.assert_read("7..", [(7, 120)])
        self.assert_read("-7..", [(-7, 120)])
        self.assert_read("120..", [(120, 120)])
        self.assert_read("-20..", [(-20, 120)])

    def test_parts(self):
        self.assert_read("1, 3, 5", [(1, 1), (3, 3), (5, 5)])
        self.assert_read("..-5, 0, 10..20, 99..", [(-20, -5), (0, 0), (10, 20), (99, 120)])

    def test_parts_in_any_order(self):
        for parts in itertools.permutations(["..-5", "0", "10..20", "99.."]):
            self.assert_read(", ".join(parts), [(-20, -5), (0, 0), (10, 20), (99, 120)])

    def test_parts_that_overlap_or_touch(self):
        self.assert_read("1..5, 4..9", [(1, 9)])
        self.assert_read("4..9, 1..5", [(1, 9)])
        self.assert_read("3, 2, 1", [(1, 3)])
        self.assert_read("7, 7, 7", [(7, 7)])
        self.assert_read("1..9, 3..4", [(1, 9)])
        self.assert_read("..50, 51..", [(-20, 120)])
        self.assert_read("..60, 40..", [(-20, 120)])

    def test_not(self):
        self.assert_read("not 5", [(-20, 4), (6, 120)])
        self.assert_read("not -5", [(-20, -6), (-4, 120)])
        self.assert_read("not ..5", [(6, 120)])
        self.assert_read("not 5..", [(-20, 4)])
        self.assert_read("not 5..9, 7..12, 0", [(-20, -1), (1, 4), (13, 120)])
        self.assert_read("not ..50, 51..", [])
        self.assert_read("not -20", [(-19, 120)])
        self.assert_read("not 120", [(-20, 119)])

    def test_not_twice(self):
        for text in ("not not 5", "not not -", "not 5, not 6", "5, not 6", "not 5 not", "notnot 5", "not not not 5"):
            self.assert_refused(BadCell, read_cell, AGE, text)

    def test_not_at_wrong_places(self):
        for text in ("not", "not ", "not5", "not  5", " not 5", "5 not", "Not 5", "NOT 5", "not, 5", "not\n5", "no 5"):
            self.assert_refused(BadCell, read_cell, AGE, text)

    def test_empty_text_and_parts(self):
        for text in ("", ", ", "5, ", ", 5", "5, , 6", ",", "5,", ",5", "not , 5", " ", "\n"):
            self.assert_refused(BadCell, read_cell, AGE, text)

    def test_blanks_at_wrong_places(self):
        for text in ("5,6", "5 ,6", "5 , 6", "5,  6", " 5", "5 ", "5 6", "3 ..7", "3.. 7", "3 .. 7", "- 5", " -", "- ",
                     ". .5", "1 2", "5,\n6", "5\n", "\n5", "5, 6\n", "-\n"):
            self.assert_refused(BadCell, read_cell, AGE, text)

    def test_all_is_no_part(self):
        for text in ("-, 5", "5, -", "-, -", "not -, 5", "not 5, -", "--", "-..5", "5..-", "-..-"):
            self.assert_refused(BadCell, read_cell, AGE, text)

    def test_dots(self):
        for text in ("..", "not ..", "5, ..", ".", "...", "....", "3.7", "3...7", "3....7", ".5", "5.", "...5", "5...",
                     "..5..", "3..7..", "..3..7", "3..5..7", "..-", "3-7", "3:7"):
            self.assert_refused(BadCell, read_cell, AGE, text)

    def test_outside_of_the_domain(self):
        for text in ("-21", "121", "-21..5", "5..121", "..121", "..-21", "121..", "-21..", "-21..121", "200..300",
                     "5, 121", "-21, 5", "not 121", "not -21..5", str(GREAT), str(-GREAT)):
            self.assert_refused(BadCell, read_cell, AGE, text)

    def test_low_end_above_the_high_one(self):
        for text in ("7..3", "-3..-7", "120..-20", "1..0", "5, 7..6", "not 7..3"):
            self.assert_refused(BadCell, read_cell, AGE, text)

    def test_no_numbers(self):
        for text in ("-0", "00", "05", "-05", "+5", "5..07", "-0..5", "..00", "007..", "5, -0", "not -0", "not 05",
                     "five", "red", "3..b", "a..7", "1_0", "0x5", "5.0", "1e1", "--5"):
            self.assert_refused(BadCell, read_cell, AGE, text)

    def test_sign_at_any_place(self):
        small = Numbers(-3, 21)
        for text in ("-", "-2", "1..2", "..2", "1..", "1, 3..4", "not 2"):
            for sign in SIGNS:
                for other in with_sign_at_any_place(text, sign):
                    self.assert_as_plain(small, other)

    def test_every_short_text(self):
        small = Numbers(-2, 3)
        signs = ["-", "not ", "..", ", ", "1", "2", "3", "4", "0", " "]
        for size in range(5):
            for parts in itertools.product(signs, repeat=size):
                self.assert_as_plain(small, "".join(parts))
        for one, other in itertools.product(["", "0", "1", "-2", "3", "-3", "4"], repeat=2):
            for ahead in ("", "not ", "not not ", "0, ", "not 0, ", "3..1, "):
                for behind in ("", ", 2", ", ..-1", ", ", "..", ", 4"):
                    self.assert_as_plain(small, ahead + one + ".." + other + behind)

    def assert_as_plain(self, domain, text):
        spans = plain_reading(domain, text)
        if spans is None:
            self.assert_refused(BadCell, read_cell, domain, text)
        else:
            self.assertEqual(read_cell(domain, text), spans, text)

    def test_60_figures(self):
        wide = Numbers(-GREAT, GREAT)
        self.assertEqual(read_cell(wide, "-"), [(-GREAT, GREAT)])
        self.assertEqual(read_cell(wide, "9" * 60), [(GREAT, GREAT)])
        self.assertEqual(read_cell(wide, "-" + "9" * 60), [(-GREAT, -GREAT)])
        self.assertEqual(read_cell(wide, "-" + "9" * 60 + ".." + "9" * 60), [(-GREAT, GREAT)])
        self.assertEqual(read_cell(wide, "not 0"), [(-GREAT, -1), (1, GREAT)])
        self.assertEqual(read_cell(wide, "..1" + "0" * 59), [(-GREAT, 10 ** 59)])
        for text in ("9" * 61, "-1" + "0" * 60, "0" * 60, "0" + "1" * 59, ".." + "9" * 61, "1" + "0" * 60 + ".."):
            self.assert_refused(BadCell, read_cell, wide, text)

    def test_100_parts(self):
        wide = Numbers(0, 1000)
        text = ", ".join([str(3 * k) for k in range(100)])
        self.assertEqual(read_cell(wide, text), [(3 * k, 3 * k) for k in range(100)])
        text = ", ".join([f"{4 * k}..{4 * k + 2}" for k in reversed(range(100))])
        self.assertEqual(read_cell(wide, text), [(4 * k, 4 * k + 2) for k in range(100)])
        self.assertEqual(read_cell(wide, "not " + text), [(4 * k + 3, 4 * k + 3) for k in range(99)] + [(399, 1000)])

    def test_more_parts_are_not_refused(self):
        text = ", ".join([str(2 * k) for k in range(110)])
        self.assertEqual(read_cell(Numbers(0, 300), text), [(2 * k, 2 * k) for k in range(110)])

    def test_domain_of_one_number(self):
        one = Numbers(-7, -7)
        for text in ("-", "-7", "..-7", "-7..", "-7..-7", "-7, -7"):
            self.assertEqual(read_cell(one, text), [(-7, -7)])
            self.assertEqual(read_cell(one, "not " + text), [])
        for text in ("7", "-8", "-6", "-8..-7", ".."):
            self.assert_refused(BadCell, read_cell, one, text)

    def test_told_anew_each_time(self):
        for text in ("-", "not -", "3..5, 9", "not 3"):
            first = read_cell(AGE, text)
            kept = list(first)
            first.append((500, 600))
            self.assertEqual(read_cell(AGE, text), kept)
        self.assertEqual(AGE.whole(), [(-20, 120)])


class ReadCellOfWords(RefusalCase):
    def assert_read(self, text, spans):
        told = read_cell(HUE, text)
        self.assertEqual(told, spans, text)
        self.assert_kinds(told, [(int, int)])

    def test_all(self):
        self.assert_read("-", [(0, 4)])

    def test_not_all(self):
        self.assert_read("not -", [])

    def test_one_word(self):
        for code, word in enumerate(HUE.words):
            self.assert_read(word, [(code, code)])

    def test_parts(self):
        self.assert_read("red, blue", [(0, 0), (2, 2)])
        self.assert_read("red, green", [(0, 1)])
        self.assert_read("red, green, blue, nothing, grey", [(0, 4)])

    def test_parts_in_any_order_and_alike(self):
        for parts in itertools.permutations(["red", "blue", "nothing"]):
            self.assert_read(", ".join(parts), [(0, 0), (2, 3)])
        self.assert_read("blue, blue, red, blue", [(0, 0), (2, 2)])

    def test_not(self):
        self.assert_read("not red", [(1, 4)])
        self.assert_read("not green, nothing", [(0, 0), (2, 2), (4, 4)])
        self.assert_read("not red, green, blue, nothing, grey", [])

    def test_word_that_begins_with_not(self):
        self.assert_read("nothing", [(3, 3)])
        self.assert_read("not nothing", [(0, 2), (4, 4)])
        self.assert_refused(BadCell, read_cell, HUE, "not hing")

    def test_words_that_the_domain_has_not(self):
        for text in ("pink", "Red", "re", "redd", "red, pink", "pink, red", "not pink", "red, blue, not", "not, red", "0",
                     "1", "0..1", "red..blue", "..blue", "red..", "-1", "r", "red-blue", "redgreen"):
            self.assert_refused(BadCell, read_cell, HUE, text)

    def test_not_twice(self):
        for text in ("not not red", "not not -", "red, not blue", "not red, not blue", "notred", "not", "not ", "not\nred"):
            self.assert_refused(BadCell, read_cell, HUE, text)

    def test_blanks_at_wrong_places(self):
        for text in ("", " ", ", ", "red,blue", "red ,blue", "red,  blue", " red", "red ", "red, ", ", red", "red, , blue",
                     "red blue", "not  red", " not red", "red\n", "\nred", "red,\nblue", "-, red", "red, -", " -", "- ", "-\n"):
            self.assert_refused(BadCell, read_cell, HUE, text)

    def test_sign_at_any_place(self):
        two = Words(["ab", "xy"])
        for sign in SIGNS:
            for text in with_sign_at_any_place("ab, xy", sign):
                if text != "ab, xy":
                    self.assert_refused(BadCell, read_cell, two, text)

    def test_one_word_and_40_words(self):
        one = Words(["so"])
        self.assertEqual(read_cell(one, "-"), [(0, 0)])
        self.assertEqual(read_cell(one, "so"), [(0, 0)])
        self.assertEqual(read_cell(one, "not so"), [])
        self.assertEqual(read_cell(one, "not -"), [])
        words = many_words(40)
        full = Words(words)
        self.assertEqual(read_cell(full, "-"), [(0, 39)])
        self.assertEqual(read_cell(full, words[39]), [(39, 39)])
        self.assertEqual(read_cell(full, ", ".join(words)), [(0, 39)])
        self.assertEqual(read_cell(full, "not " + words[39]), [(0, 38)])
        self.assertEqual(read_cell(full, ", ".join(words[::2])), [(k, k) for k in range(0, 40, 2)])
        self.assertEqual(read_cell(full, ", ".join((words + words + words)[:100])), [(0, 39)])


class ShowCell(RefusalCase):
    def test_numbers(self):
        for spans, text in (
            ([], "not -"),
            ([(-20, 120)], "-"),
            ([(5, 5)], "5"),
            ([(-5, -5)], "-5"),
            ([(0, 0)], "0"),
            ([(-20, 7)], "..7"),
            ([(7, 120)], "7.."),
            ([(3, 7)], "3..7"),
            ([(3, 4)], "3..4"),
            ([(-7, -3)], "-7..-3"),
            ([(-20, -20)], "-20"),
            ([(120, 120)], "120"),
            ([(-20, -19)], "..-19"),
            ([(119, 120)], "119.."),
            ([(-19, 119)], "-19..119"),
            ([(-20, 4), (6, 120)], "..4, 6.."),
            ([(-20, -20), (0, 5), (9, 9), (120, 120)], "-20, 0..5, 9, 120"),
            ([(-20, -5), (0, 0), (10, 20), (99, 120)], "..-5, 0, 10..20, 99.."),
        ):
            told = show_cell(AGE, spans)
            self.assertEqual(told, text)
            self.assertIs(type(told), str)
            self.assertEqual(read_cell(AGE, text), spans)

    def test_words(self):
        for spans, text in (
            ([], "not -"),
            ([(0, 4)], "-"),
            ([(0, 0)], "red"),
            ([(4, 4)], "grey"),
            ([(0, 1)], "red, green"),
            ([(1, 4)], "green, blue, nothing, grey"),
            ([(0, 3)], "red, green, blue, nothing"),
            ([(0, 0), (2, 3)], "red, blue, nothing"),
            ([(0, 0), (2, 2), (4, 4)], "red, blue, grey"),
        ):
            told = show_cell(HUE, spans)
            self.assertEqual(told, text)
            self.assertIs(type(told), str)
            self.assertEqual(read_cell(HUE, text), spans)

    def test_every_set_is_read_back(self):
        for domain in (Numbers(-3, 4), Numbers(0, 0), Numbers(9, 10), Words(many_words(7)), Words(["so"])):
            seen = set()
            for codes in all_sets(domain):
                spans = spans_of(codes)
                text = show_cell(domain, spans)
                self.assertEqual(read_cell(domain, text), spans, text)
                self.assertEqual("not" in text, spans == [])
                seen.add(text)
            self.assertEqual(len(seen), 2 ** domain.count_of())

    def test_domains_of_one_code(self):
        for domain in (Numbers(5, 5), Numbers(-GREAT, -GREAT)):
            self.assertEqual(show_cell(domain, domain.whole()), "-")
            self.assertEqual(show_cell(domain, []), "not -")
        self.assertEqual(show_cell(Words(["so"]), [(0, 0)]), "-")
        self.assertEqual(show_cell(Words(["so"]), []), "not -")

    def test_40_words(self):
        words = many_words(40)
        full = Words(words)
        self.assertEqual(show_cell(full, [(0, 39)]), "-")
        self.assertEqual(show_cell(full, [(0, 38)]), ", ".join(words[:39]))
        self.assertEqual(show_cell(full, [(k, k) for k in range(1, 40, 2)]), ", ".join(words[1::2]))

    def test_60_figures(self):
        wide = Numbers(-GREAT, GREAT)
        self.assertEqual(show_cell(wide, [(-GREAT, GREAT)]), "-")
        self.assertEqual(show_cell(wide, [(-GREAT, -GREAT), (GREAT, GREAT)]), "-" + "9" * 60 + ", " + "9" * 60)
        self.assertEqual(show_cell(wide, [(1 - GREAT, GREAT - 1)]), "-" + "9" * 59 + "8.." + "9" * 59 + "8")
        self.assertEqual(show_cell(wide, [(10 ** 59, GREAT)]), "1" + "0" * 59 + "..")

    def test_100_pairs(self):
        wide = Numbers(0, 399)
        spans = [(4 * k, 4 * k + 2) for k in range(100)]
        text = show_cell(wide, spans)
        self.assertEqual(text, "..2, " + ", ".join([f"{4 * k}..{4 * k + 2}" for k in range(1, 100)]))
        self.assertEqual(read_cell(wide, text), spans)

    def test_nothing_handed_in_is_changed(self):
        for domain, spans in ((AGE, [(1, 2), (5, 5)]), (HUE, [(1, 2), (4, 4)]), (HUE, []), (AGE, [(-20, 120)])):
            kept = list(spans)
            show_cell(domain, spans)
            self.assertEqual(spans, kept)
        self.assertEqual(HUE.words, ["red", "green", "blue", "nothing", "grey"])


class ReadValue(RefusalCase):
    def test_numbers(self):
        for number in (-20, -1, 0, 7, 120):
            told = read_value(AGE, str(number))
            self.assertEqual(told, number)
            self.assertIs(type(told), int)

    def test_no_number(self):
        for text in ("", "-", "-0", "05", "+5", "red", "5 ", " 5", "5\n", "3..5", "not 5", "9" * 61, "-" + "1" * 61, "True"):
            self.assert_refused(BadNumber, read_value, AGE, text)

    def test_number_outside(self):
        for text in ("-21", "121", "9" * 60, "-" + "9" * 60):
            self.assert_refused(Outside, read_value, AGE, text)

    def test_60_figures(self):
        wide = Numbers(-GREAT, GREAT)
        self.assertEqual(read_value(wide, "9" * 60), GREAT)
        self.assertEqual(read_value(wide, "-" + "9" * 60), -GREAT)

    def test_words(self):
        for code, word in enumerate(HUE.words):
            told = read_value(HUE, word)
            self.assertEqual(told, code)
            self.assertIs(type(told), int)
        full = Words(many_words(40))
        self.assertEqual([read_value(full, word) for word in many_words(40)], list(range(40)))

    def test_no_word_of_the_domain(self):
        for text in ("", "pink", "Red", "red ", "red\n", "not", "-", "0", "red, green", "-0", "05"):
            self.assert_refused(Outside, read_value, HUE, text)


class ShowValue(unittest.TestCase):
    def test_numbers(self):
        for number, text in ((0, "0"), (7, "7"), (-7, "-7"), (-20, "-20"), (120, "120")):
            told = show_value(AGE, number)
            self.assertEqual(told, text)
            self.assertIs(type(told), str)
        self.assertEqual(show_value(Numbers(-GREAT, GREAT), -GREAT), "-" + "9" * 60)

    def test_words(self):
        self.assertEqual([show_value(HUE, code) for code in range(5)], ["red", "green", "blue", "nothing", "grey"])
        self.assertEqual(show_value(Words(["so"]), 0), "so")

    def test_read_back(self):
        for domain in (Numbers(-12, 12), HUE, Words(many_words(40))):
            for code in range(domain.low, domain.high + 1):
                self.assertEqual(read_value(domain, show_value(domain, code)), code)


if __name__ == "__main__":
    unittest.main()
