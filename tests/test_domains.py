import unittest

from helpers import GREAT, LETTERS, SIGNS, RefusalCase, many_words, with_sign_at_any_place
from rowjudge.domains import Domain, Numbers, Words, alike, is_word, number_of, number_text, read_domain
from rowjudge.errors import BadDomain, BadNumber, Outside

STRANGE = [sign for sign in SIGNS if sign not in LETTERS]
NO_FIGURES = [sign for sign in SIGNS if sign not in "0123456789"]


class IsWord(unittest.TestCase):
    def test_length(self):
        self.assertIs(is_word(""), False)
        self.assertIs(is_word("a"), True)
        self.assertIs(is_word("abcdefghijkl"), True)
        self.assertIs(is_word("abcdefghijklm"), False)
        self.assertIs(is_word("z" * 400), False)

    def test_each_letter(self):
        for letter in LETTERS:
            self.assertIs(is_word(letter), True)
            self.assertIs(is_word("ab" + letter), True)

    def test_other_signs_at_any_place(self):
        for sign in STRANGE:
            self.assertIs(is_word(sign), False)
            for text in with_sign_at_any_place("word", sign):
                self.assertIs(is_word(text), False, text)

    def test_line_ends(self):
        for text in ("\n", "word\n", "\nword", "wo\nrd", "word\r", "word\r\n", "not\n"):
            self.assertIs(is_word(text), False, text)

    def test_not(self):
        self.assertIs(is_word("not"), False)
        for text in ("no", "nota", "notnot", "nothing", "knot", "anot", "n", "ot", "tno"):
            self.assertIs(is_word(text), True, text)


class NumberOf(RefusalCase):
    def test_read(self):
        for number in list(range(-1200, 1200)) + [10 ** k for k in range(60)] + [-(10 ** k) for k in range(60)]:
            told = number_of(str(number))
            self.assertEqual(told, number)
            self.assertIs(type(told), int)

    def test_60_figures(self):
        self.assertEqual(number_of("9" * 60), GREAT)
        self.assertEqual(number_of("-" + "9" * 60), -GREAT)
        self.assertEqual(number_of("1" + "0" * 59), 10 ** 59)
        self.assertEqual(number_of("-1" + "0" * 59), -(10 ** 59))

    def test_61_figures(self):
        for text in ("9" * 61, "-" + "9" * 61, "1" + "0" * 60, "-1" + "0" * 60, "1" * 5000, "-" + "1" * 5000):
            self.assert_refused(BadNumber, number_of, text)

    def test_nought(self):
        self.assertEqual(number_of("0"), 0)
        for text in ("-0", "+0", "00", "-00", "000", "0-"):
            self.assert_refused(BadNumber, number_of, text)

    def test_nought_ahead(self):
        for text in ("01", "-01", "007", "-007", "0" * 60, "0" + "1" * 59, "0-1"):
            self.assert_refused(BadNumber, number_of, text)

    def test_no_figures(self):
        for text in ("", "-", "--", "--1", "1-", "1-1", "+1", "- 1", "-+1", "one", "a"):
            self.assert_refused(BadNumber, number_of, text)

    def test_other_signs_at_any_place(self):
        for sign in NO_FIGURES:
            for number in ("12", "-345"):
                for text in with_sign_at_any_place(number, sign):
                    if text in ("-12", "-2", "-345"):
                        continue
                    self.assert_refused(BadNumber, number_of, text)

    def test_forms_that_python_reads(self):
        for text in ("1_000", " 1", "1 ", "1\n", "\n1", "\t1", "0x1", "1e3", "1.0", "0b1", "-\n1"):
            self.assert_refused(BadNumber, number_of, text)


class NumberText(unittest.TestCase):
    def test_written(self):
        self.assertEqual(number_text(0), "0")
        self.assertEqual(number_text(7), "7")
        self.assertEqual(number_text(-7), "-7")
        self.assertEqual(number_text(1000), "1000")
        self.assertEqual(number_text(GREAT), "9" * 60)
        self.assertEqual(number_text(-GREAT), "-" + "9" * 60)

    def test_read_back(self):
        for number in list(range(-300, 300)) + [10 ** 59, -(10 ** 59), GREAT, -GREAT]:
            self.assertEqual(number_of(number_text(number)), number)


class NumbersDomain(RefusalCase):
    def test_fields(self):
        domain = Numbers(-3, 9)
        self.assertIsInstance(domain, Domain)
        self.assertEqual((domain.low, domain.high), (-3, 9))

    def test_low_above_high(self):
        self.assert_refused(BadDomain, Numbers, 1, 0)
        self.assert_refused(BadDomain, Numbers, -3, -4)
        self.assert_refused(BadDomain, Numbers, GREAT, -GREAT)

    def test_bears(self):
        domain = Numbers(-3, 9)
        for value in (-3, -2, 0, 1, 8, 9):
            self.assertIs(domain.bears(value), True, value)
        for value in (-4, 10, GREAT, -GREAT, "", "0", "-3", "word", True, False, None):
            self.assertIs(domain.bears(value), False, value)

    def test_code(self):
        domain = Numbers(-3, 9)
        for value in (-3, -2, 0, 1, 8, 9):
            self.assertEqual(domain.code(value), value)
        for value in (-4, 10, GREAT, -GREAT, "", "0", "-3", "word", True, False, None):
            self.assert_refused(Outside, domain.code, value)

    def test_true_and_false_are_no_numbers(self):
        for domain in (Numbers(0, 1), Numbers(0, 0), Numbers(1, 1)):
            for value in (True, False):
                self.assertIs(domain.bears(value), False)
                self.assert_refused(Outside, domain.code, value)

    def test_worth(self):
        domain = Numbers(-3, 9)
        for code in (-3, -2, 0, 1, 8, 9):
            self.assertEqual(domain.worth(code), code)
            self.assertIs(type(domain.worth(code)), int)
        for code in (-4, 10, GREAT, -GREAT):
            self.assert_refused(Outside, domain.worth, code)

    def test_one_number(self):
        domain = Numbers(5, 5)
        self.assertEqual(domain.count_of(), 1)
        self.assertEqual(domain.whole(), [(5, 5)])
        self.assertEqual(domain.written(), "5..5")
        self.assertEqual([domain.bears(value) for value in (4, 5, 6)], [False, True, False])

    def test_60_figures(self):
        domain = Numbers(-GREAT, GREAT)
        self.assertEqual(domain.count_of(), 2 * 10 ** 60 - 1)
        self.assertEqual(domain.whole(), [(-GREAT, GREAT)])
        self.assertEqual(domain.written(), "-" + "9" * 60 + ".." + "9" * 60)
        self.assertEqual(domain.code(-GREAT), -GREAT)
        self.assertEqual(domain.worth(GREAT), GREAT)
        self.assert_refused(Outside, Numbers(1 - GREAT, GREAT - 1).code, GREAT)
        self.assert_refused(Outside, Numbers(1 - GREAT, GREAT - 1).worth, -GREAT)

    def test_told_of_the_whole(self):
        domain = Numbers(-3, 9)
        self.assertEqual(domain.count_of(), 13)
        self.assertEqual(domain.written(), "-3..9")
        self.assertEqual(domain.whole(), [(-3, 9)])
        self.assertIs(type(domain.whole()), list)
        self.assertIs(type(domain.whole()[0]), tuple)

    def test_whole_is_the_askers_own(self):
        domain = Numbers(-3, 9)
        domain.whole().append((20, 30))
        domain.whole().clear()
        self.assertEqual(domain.whole(), [(-3, 9)])


class WordsDomain(RefusalCase):
    def test_fields(self):
        domain = Words(["red", "green", "blue"])
        self.assertIsInstance(domain, Domain)
        self.assertEqual((domain.low, domain.high), (0, 2))
        self.assertEqual(domain.words, ["red", "green", "blue"])
        self.assertIs(type(domain.words), list)

    def test_how_many(self):
        self.assert_refused(BadDomain, Words, [])
        self.assertEqual(Words(["a"]).high, 0)
        self.assertEqual(Words(many_words(40)).high, 39)
        self.assert_refused(BadDomain, Words, many_words(41))
        self.assert_refused(BadDomain, Words, many_words(200))

    def test_word_twice(self):
        self.assert_refused(BadDomain, Words, ["a", "a"])
        self.assert_refused(BadDomain, Words, ["a", "b", "c", "a"])
        self.assert_refused(BadDomain, Words, many_words(39) + ["aa"])

    def test_no_word(self):
        for text in ("", "not", "A", "aB", "a b", "a,", "1", "-", "a\n", "abcdefghijklm"):
            self.assert_refused(BadDomain, Words, [text])
            self.assert_refused(BadDomain, Words, ["a", text])
            self.assert_refused(BadDomain, Words, [text, "a"])
            self.assert_refused(BadDomain, Words, ["b", text, "a"])
        self.assertEqual(Words(["nothing", "abcdefghijkl"]).count_of(), 2)

    def test_bears(self):
        domain = Words(["red", "green", "blue"])
        for value in ("red", "green", "blue"):
            self.assertIs(domain.bears(value), True)
        for value in ("", "re", "redd", "Red", "black", "not", "red, green", 0, 1, 2, -1, 3, GREAT, True, False, None):
            self.assertIs(domain.bears(value), False, value)

    def test_code(self):
        domain = Words(["red", "green", "blue"])
        self.assertEqual([domain.code(value) for value in ("red", "green", "blue")], [0, 1, 2])
        for value in ("", "re", "redd", "Red", "black", "not", 0, 1, 2, -1, 3, GREAT, True, False, None):
            self.assert_refused(Outside, domain.code, value)

    def test_worth(self):
        domain = Words(["red", "green", "blue"])
        self.assertEqual([domain.worth(code) for code in (0, 1, 2)], ["red", "green", "blue"])
        for code in (-1, -2, -3, -4, 3, 4, GREAT, -GREAT):
            self.assert_refused(Outside, domain.worth, code)

    def test_code_and_worth_of_40_words(self):
        words = many_words(40)
        domain = Words(words)
        for place, word in enumerate(words):
            self.assertEqual(domain.code(word), place)
            self.assertEqual(domain.worth(place), word)
        self.assert_refused(Outside, domain.worth, 40)
        self.assert_refused(Outside, domain.worth, -1)

    def test_one_word(self):
        domain = Words(["only"])
        self.assertEqual(domain.count_of(), 1)
        self.assertEqual(domain.whole(), [(0, 0)])
        self.assertEqual(domain.written(), "only")
        self.assert_refused(Outside, domain.worth, 1)

    def test_told_of_the_whole(self):
        domain = Words(["red", "green", "blue"])
        self.assertEqual(domain.count_of(), 3)
        self.assertEqual(domain.written(), "red, green, blue")
        self.assertEqual(domain.whole(), [(0, 2)])
        self.assertIs(type(domain.whole()), list)
        self.assertIs(type(domain.whole()[0]), tuple)

    def test_words_are_the_domains_own(self):
        words = ["red", "green", "blue"]
        domain = Words(words)
        self.assertEqual(words, ["red", "green", "blue"])
        words.append("black")
        words[0] = "white"
        self.assertEqual(domain.words, ["red", "green", "blue"])
        self.assertIs(domain.bears("black"), False)
        self.assertEqual(domain.code("red"), 0)
        self.assertEqual(domain.worth(0), "red")
        self.assertEqual(domain.written(), "red, green, blue")
        self.assertEqual(domain.count_of(), 3)

    def test_two_domains_of_one_list_share_nothing(self):
        words = ["red", "green"]
        self.assertIsNot(Words(words).words, words)
        self.assertIsNot(Words(words).words, Words(words).words)

    def test_whole_is_the_askers_own(self):
        domain = Words(["red", "green", "blue"])
        domain.whole().append((20, 30))
        domain.whole().clear()
        self.assertEqual(domain.whole(), [(0, 2)])


class Alike(unittest.TestCase):
    def test_numbers(self):
        self.assertIs(alike(Numbers(1, 5), Numbers(1, 5)), True)
        self.assertIs(alike(Numbers(1, 5), Numbers(1, 6)), False)
        self.assertIs(alike(Numbers(1, 5), Numbers(0, 5)), False)
        self.assertIs(alike(Numbers(-GREAT, GREAT), Numbers(-GREAT, GREAT)), True)
        self.assertIs(alike(Numbers(-GREAT, GREAT), Numbers(-GREAT, GREAT - 1)), False)

    def test_words(self):
        self.assertIs(alike(Words(["a", "b"]), Words(["a", "b"])), True)
        self.assertIs(alike(Words(["a", "b"]), Words(["b", "a"])), False)
        self.assertIs(alike(Words(["a", "b"]), Words(["a", "c"])), False)
        self.assertIs(alike(Words(["a", "b"]), Words(["a"])), False)
        self.assertIs(alike(Words(["a"]), Words(["a", "b"])), False)

    def test_one_of_each(self):
        self.assertIs(alike(Numbers(0, 1), Words(["a", "b"])), False)
        self.assertIs(alike(Words(["a", "b"]), Numbers(0, 1)), False)

    def test_one_with_itself(self):
        for domain in (Numbers(2, 3), Words(["a", "b"])):
            self.assertIs(alike(domain, domain), True)


class ReadDomain(RefusalCase):
    def assert_numbers(self, text, low, high):
        domain = read_domain(text)
        self.assertIs(type(domain), Numbers)
        self.assertEqual((domain.low, domain.high), (low, high))

    def assert_words(self, text, words):
        domain = read_domain(text)
        self.assertIs(type(domain), Words)
        self.assertEqual(domain.words, words)

    def test_numbers(self):
        self.assert_numbers("0..0", 0, 0)
        self.assert_numbers("1..20", 1, 20)
        self.assert_numbers("-20..-1", -20, -1)
        self.assert_numbers("-5..5", -5, 5)
        self.assert_numbers("-" + "9" * 60 + ".." + "9" * 60, -GREAT, GREAT)

    def test_words(self):
        self.assert_words("a", ["a"])
        self.assert_words("red, green, blue", ["red", "green", "blue"])
        self.assert_words("nothing, knot", ["nothing", "knot"])
        self.assert_words(", ".join(many_words(40)), many_words(40))

    def test_low_above_high(self):
        for text in ("1..0", "-1..-2", "5..-5", "9" * 60 + "..1"):
            self.assert_refused(BadDomain, read_domain, text)

    def test_word_twice_and_too_many_words(self):
        self.assert_refused(BadDomain, read_domain, "a, a")
        self.assert_refused(BadDomain, read_domain, "a, b, a")
        self.assert_refused(BadDomain, read_domain, ", ".join(many_words(41)))

    def test_numbers_that_are_none(self):
        wrong = ("", "-", "-0", "00", "01", "+1", " 1", "1 ", "1\n", "\n1", "a", "1" * 61, "1_0", "1.", "0x1")
        for text in wrong:
            self.assert_refused(BadDomain, read_domain, text + "..5")
            self.assert_refused(BadDomain, read_domain, "-5.." + text)
        # A dot ahead of the high is the one wrong sign that the two dots could swallow.
        for text in ("..", "...", "1...5", "1....5", "1..2..3", "..1..5", "1.5", "1, 2", "1 .. 2", "1..2, 3..4"):
            self.assert_refused(BadDomain, read_domain, text)

    def test_words_that_are_none(self):
        wrong = ("", " ", "not", "A", "a ", " a", "a\n", "\na", "a b", "a,b", "a,", ",a", "1", "-", "abcdefghijklm")
        for text in wrong:
            self.assert_refused(BadDomain, read_domain, text)
            self.assert_refused(BadDomain, read_domain, "z, " + text)
            self.assert_refused(BadDomain, read_domain, text + ", z")

    def test_neither(self):
        for text in ("5", "-5", "a..b", "a, 1", "1, a", "a, 1..2", "1..2, a", "a; b", ", ", ",", "not a", "1-2"):
            self.assert_refused(BadDomain, read_domain, text)

    def test_other_signs_at_any_place(self):
        for sign in STRANGE:
            for text in with_sign_at_any_place("ab, cd", sign):
                if text not in ("ab, cd",):
                    self.assert_refused(BadDomain, read_domain, text)
        for sign in NO_FIGURES:
            for text in with_sign_at_any_place("1..2", sign):
                if text not in ("1..2", "-1..2"):
                    self.assert_refused(BadDomain, read_domain, text)

    def test_written_is_read_back(self):
        domains = [Numbers(low, high) for low in range(-12, 13) for high in range(low, 13)]
        domains += [Numbers(-GREAT, GREAT), Numbers(GREAT, GREAT), Numbers(-GREAT, -GREAT)]
        domains += [Words(many_words(k)) for k in range(1, 41)]
        domains += [Words(["nothing", "abcdefghijkl", "a"])]
        for domain in domains:
            self.assertIs(alike(read_domain(domain.written()), domain), True, domain.written())

    def test_what_is_read_is_new_each_time(self):
        self.assertIsNot(read_domain("a, b"), read_domain("a, b"))
        self.assertIsNot(read_domain("a, b").words, read_domain("a, b").words)


if __name__ == "__main__":
    unittest.main()
