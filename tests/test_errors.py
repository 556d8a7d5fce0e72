"""[2] and the interface: the classes of refusals."""

import unittest

from bankwalk import errors

WITH_WORDS = ["NoWord", "NoStart", "NoWalk", "NoOrder", "Clash", "NotSquare", "BadText"]
WITH_FIELDS = ["NoAsk", "BadRow"]


class ErrorTests(unittest.TestCase):
    def test_bank_error_stands_straight_under_value_error(self):
        self.assertEqual(errors.BankError.__bases__, (ValueError,))

    def test_each_refusal_stands_straight_under_bank_error(self):
        for name in WITH_WORDS + WITH_FIELDS:
            with self.subTest(name):
                self.assertEqual(getattr(errors, name).__bases__, (errors.BankError,))

    def test_no_refusal_stands_under_another(self):
        classes = [getattr(errors, name) for name in WITH_WORDS + WITH_FIELDS]
        for one in classes:
            self.assertEqual([other for other in classes if issubclass(one, other)], [one])

    def test_made_with_words(self):
        for name in WITH_WORDS:
            with self.subTest(name):
                made = getattr(errors, name)("some words")
                self.assertEqual(str(made), "some words")
                with self.assertRaises(errors.BankError):
                    raise made

    def test_fields_of_no_ask(self):
        made = errors.NoAsk(3, 7)
        self.assertEqual((made.row, made.at), (3, 7))
        with self.assertRaises(errors.BankError):
            raise made

    def test_field_of_bad_row(self):
        made = errors.BadRow(5)
        self.assertEqual(made.row, 5)
        with self.assertRaises(errors.BankError):
            raise made

    def test_fields_are_each_object_s_own(self):
        one, other = errors.NoAsk(0, 1), errors.NoAsk(2, 3)
        self.assertEqual((one.row, one.at, other.row, other.at), (0, 1, 2, 3))


if __name__ == "__main__":
    unittest.main()
