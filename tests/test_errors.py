"""0.20: the errors."""

import unittest

from holdlevels import errors

MESSAGES = (
    "InvalidTask", "InvalidTasks", "InvalidLevels", "InvalidPlan", "InvalidOperation", "InvalidEdit", "ParseError",
    "InvalidCommand",
)
KEEPING = (
    ("InvalidNumber", IndexError, "value"),
    ("UnknownName", KeyError, "name"),
    ("TooMany", OverflowError, "limit"),
    ("Overload", ArithmeticError, "share"),
    ("NoLevels", RuntimeError, "paper"),
    ("NothingToUndo", LookupError, "many"),
)


class ErrorsTest(unittest.TestCase):
    def test_hold_error_is_a_value_error_with_a_message(self):
        self.assertEqual(errors.HoldError.__bases__, (ValueError,))
        with self.assertRaises(ValueError):
            raise errors.HoldError("why")

    def test_errors_with_a_message_are_derived_directly_from_hold_error(self):
        for name in MESSAGES:
            error = getattr(errors, name)
            self.assertEqual(error.__bases__, (errors.HoldError,), name)
            with self.assertRaises(errors.HoldError):
                raise error("why")

    def test_errors_with_a_value_keep_it(self):
        for name, base, attribute in KEEPING:
            error = getattr(errors, name)
            self.assertEqual(error.__bases__, (base,), name)
            for value in (None, True, -3, "log", (1, 2), [1], {"a": 1}, ("none", (), "log", ((0, "log", 6),))):
                made = error(value)
                self.assertIs(getattr(made, attribute), value)
                with self.assertRaises(base):
                    raise made

    def test_errors_are_not_derived_from_one_another(self):
        names = MESSAGES + tuple(name for name, _, _ in KEEPING)
        for one in names:
            for two in names:
                if one != two:
                    self.assertFalse(issubclass(getattr(errors, one), getattr(errors, two)), (one, two))
        for name, _, _ in KEEPING:
            self.assertFalse(issubclass(getattr(errors, name), errors.HoldError))

    def test_all_errors_stand_in_their_module(self):
        for name in MESSAGES + ("HoldError",) + tuple(name for name, _, _ in KEEPING):
            self.assertEqual(getattr(errors, name).__module__, "holdlevels.errors")


if __name__ == "__main__":
    unittest.main()
