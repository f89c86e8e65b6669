"""The error classes, as the interface tells them."""

import unittest

from wholeahead import errors


class ErrorClasses(unittest.TestCase):
    def test_table_error_is_straight_under_value_error(self):
        self.assertEqual(errors.TableError.__bases__, (ValueError,))

    def test_each_refusal_is_straight_under_table_error(self):
        for refusal in (errors.BadTable, errors.BadSquare, errors.BadThing):
            with self.subTest(refusal=refusal):
                self.assertEqual(refusal.__bases__, (errors.TableError,))

    def test_each_class_has_its_own_name(self):
        for name in ("TableError", "BadTable", "BadSquare", "BadThing"):
            with self.subTest(name=name):
                self.assertEqual(getattr(errors, name).__name__, name)

    def test_each_refusal_can_be_raised_with_words_and_without(self):
        for refusal in (errors.TableError, errors.BadTable, errors.BadSquare, errors.BadThing):
            with self.subTest(refusal=refusal):
                with self.assertRaises(errors.TableError):
                    raise refusal("words")
                with self.assertRaises(ValueError):
                    raise refusal()


if __name__ == "__main__":
    unittest.main()
