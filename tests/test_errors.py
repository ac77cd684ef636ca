import unittest

from rowjudge import errors

NAMES = (
    "BadNumber", "BadName", "BadDomain", "BadCell", "BadWay", "BadRow", "BadLine", "TooMany",
    "TooFine", "Outside", "Hole", "Clash", "Unlike", "NoTable", "NoFact", "Ring",
)


class Refusals(unittest.TestCase):
    def test_table_error_is_a_value_error(self):
        self.assertEqual(errors.TableError.__bases__, (ValueError,))

    def test_each_class_stands_straight_under_table_error(self):
        self.assertEqual(len(set(NAMES)), 16)
        for name in NAMES:
            with self.subTest(name=name):
                found = getattr(errors, name)
                self.assertEqual(found.__name__, name)
                self.assertEqual(found.__bases__, (errors.TableError,))

    def test_no_class_passes_for_another_one(self):
        for name in NAMES:
            for other in NAMES:
                under = issubclass(getattr(errors, name), getattr(errors, other))
                self.assertEqual(under, name == other, (name, other))

    def test_each_is_raised_with_words_and_taken_as_any_refusal(self):
        for name in NAMES:
            with self.assertRaises(errors.TableError) as taken:
                raise getattr(errors, name)("why")
            self.assertEqual(str(taken.exception), "why")


if __name__ == "__main__":
    unittest.main()
