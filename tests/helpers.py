"""What several of the tests need."""

import unittest

from rowjudge.errors import TableError

GREAT = 10 ** 60 - 1
LETTERS = "abcdefghijklmnopqrstuvwxyz"
SIGNS = [chr(k) for k in range(32, 127) if chr(k) != "\x25"] + ["\n"]


def many_words(how_many):
    return [LETTERS[k // 26] + LETTERS[k % 26] for k in range(how_many)]


def with_sign_at_any_place(text, sign):
    put_in = [text[:k] + sign + text[k:] for k in range(len(text) + 1)]
    put_over = [text[:k] + sign + text[k + 1:] for k in range(len(text))]
    return put_in + put_over


def spans_of(numbers):
    # The plain reading of [1.1]: number by number, beside the program's own ways.
    spans = []
    for number in sorted(set(numbers)):
        if spans and spans[-1][1] == number - 1:
            spans[-1] = (spans[-1][0], number)
        else:
            spans.append((number, number))
    return spans


class RefusalCase(unittest.TestCase):
    def assert_refused(self, error, call, *given):
        with self.assertRaises(TableError) as taken:
            call(*given)
        self.assertIs(type(taken.exception), error, given)

    def assert_kinds(self, told, kinds):
        # [x] stands for a list of x, (x, y) for a tuple of just x and y.
        if isinstance(kinds, type):
            self.assertIs(type(told), kinds, told)
        elif isinstance(kinds, list):
            self.assertIs(type(told), list, told)
            for part in told:
                self.assert_kinds(part, kinds[0])
        else:
            self.assertIs(type(told), tuple, told)
            self.assertEqual(len(told), len(kinds), told)
            for part, kind in zip(told, kinds):
                self.assert_kinds(part, kind)
