"""Point 6 and the list of errors in point 48."""

import unittest

from sharedboard import errors
from sharedboard.errors import BoardError

PLAIN = (
    "NoCells", "NoProcedure", "NoPath", "NoBoard", "NoNumber", "NoDeed", "NoWidth",
    "NoTable", "NoClass", "NoState", "NoClasses", "NoClaims", "NoOrder", "NoFault",
    "NoMany", "NoList", "NoIndex", "NoDeeds", "NotLet", "NoReplica", "Held",
)
FIELDS = {
    "NoBook": ("procedure", "path"),
    "NoRun": ("index",),
    "NoHistory": ("index",),
    "NoVectors": ("index",),
    "NoEquations": ("index",),
    "NoEquation": ("place",),
    "NoSender": ("state",),
    "TooMany": ("many",),
    "NoText": ("line",),
}
VALUES = (
    0, 1, -1, 10 ** 50, True, False, "", "left", "two\nlines", None, (), (0, 1, 2), ("a", None),
    [], [1, [2, (3,)]], ([1], {"a": [2]}), {(0, 1): [None]},
)


class ErrorTest(unittest.TestCase):
    def test_board_error_stands_directly_under_value_error(self):
        self.assertEqual(BoardError.__bases__, (ValueError,))

    def test_each_error_stands_directly_under_board_error(self):
        for name in (*PLAIN, *FIELDS):
            with self.subTest(name):
                self.assertEqual(getattr(errors, name).__bases__, (BoardError,))

    def test_each_error_is_defined_in_the_module(self):
        for name in ("BoardError", *PLAIN, *FIELDS):
            with self.subTest(name):
                self.assertEqual(getattr(errors, name).__module__, "sharedboard.errors")

    def test_no_other_error_stands_under_another_one(self):
        for name, value in vars(errors).items():
            if isinstance(value, type) and value is not BoardError:
                with self.subTest(name):
                    self.assertEqual(value.__bases__, (BoardError,))

    def test_errors_without_fields_are_called_without_arguments(self):
        for name in PLAIN:
            with self.subTest(name):
                error = getattr(errors, name)
                with self.assertRaises(error) as caught:
                    raise error()
                self.assertIsInstance(caught.exception, ValueError)

    def test_no_error_is_caught_as_another_one(self):
        for name in PLAIN:
            made = getattr(errors, name)()
            for other in (*PLAIN, *FIELDS):
                self.assertEqual(isinstance(made, getattr(errors, other)), name == other)

    def test_single_fields_keep_what_was_passed(self):
        for name, fields in FIELDS.items():
            for value in VALUES:
                if len(fields) == 1:
                    with self.subTest(name, value=value):
                        kept = getattr(getattr(errors, name)(value), fields[0])
                        self.assertEqual(kept, value)
                        self.assertIs(type(kept), type(value))

    def test_no_book_keeps_both_fields_in_order(self):
        for one in VALUES:
            for other in VALUES:
                with self.subTest(one=one, other=other):
                    error = errors.NoBook(one, other)
                    self.assertEqual((error.procedure, error.path), (one, other))
                    self.assertIs(type(error.procedure), type(one))
                    self.assertIs(type(error.path), type(other))

    def test_fields_are_read_off_a_caught_error(self):
        with self.assertRaises(errors.NoBook) as caught:
            raise errors.NoBook(2, (0, 1))
        self.assertEqual((caught.exception.procedure, caught.exception.path), (2, (0, 1)))

    def test_later_changes_of_a_passed_list_have_no_effect(self):
        for name, fields in FIELDS.items():
            with self.subTest(name):
                inner = [1]
                passed = [inner, (inner,), {"a": inner}]
                error = getattr(errors, name)(*[passed for _ in fields])
                inner.append(2)
                passed.append(3)
                for field in fields:
                    self.assertEqual(getattr(error, field), [[1], ([1],), {"a": [1]}])


if __name__ == "__main__":
    unittest.main()
