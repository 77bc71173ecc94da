"""The refusals: which there are, and how they stand under one another."""

import unittest

from hadbeen import errors

PLAIN = ("NoProgram", "NoChange", "NoPlace", "NoValue", "NoMoment", "NoPart", "NoKey", "NoWish", "NoText")


class ErrorsTest(unittest.TestCase):
    def test_had_error_stands_straight_under_value_error(self):
        self.assertEqual(errors.HadError.__bases__, (ValueError,))

    def test_each_stands_straight_under_had_error(self):
        for name in PLAIN + ("BadBook",):
            with self.subTest(name):
                self.assertEqual(getattr(errors, name).__bases__, (errors.HadError,))

    def test_none_is_another_one(self):
        classes = [getattr(errors, name) for name in PLAIN + ("BadBook",)]
        for one in classes:
            for other in classes:
                self.assertEqual(issubclass(one, other), one is other)

    def test_the_plain_ones_are_made_with_nothing_and_have_no_fields(self):
        for name in PLAIN:
            with self.subTest(name):
                self.assertEqual(vars(getattr(errors, name)()), {})

    def test_each_is_taken_as_a_had_error(self):
        for name in PLAIN:
            with self.subTest(name), self.assertRaises(errors.HadError):
                raise getattr(errors, name)("why")

    def test_bad_book_has_its_number(self):
        for number in (0, 3, 400):
            with self.assertRaises(errors.HadError) as caught:
                raise errors.BadBook(number)
            self.assertIs(type(caught.exception), errors.BadBook)
            self.assertEqual(caught.exception.number, number)


if __name__ == "__main__":
    unittest.main()
