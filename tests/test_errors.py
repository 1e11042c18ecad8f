"""Point 5: the errors."""

import unittest

from dequelogs import errors

PLAIN = ["NoLogs", "NoFacts", "NoRun", "NoWorker", "NoItem", "NoPlace", "NoNumber", "NoEntry", "Nothing"]
FIELDS = {"Conflict": "reason", "TooMany": "many", "NoText": "at"}


class Errors(unittest.TestCase):
    def test_base_is_a_value_error(self):
        self.assertEqual(errors.DequeError.__bases__, (ValueError,))

    def test_all_stand_there_below_the_base(self):
        for name in PLAIN + list(FIELDS):
            found = getattr(errors, name)
            self.assertTrue(issubclass(found, errors.DequeError), name)
            self.assertEqual(found.__module__, "dequelogs.errors")

    def test_none_is_below_another_one(self):
        found = [getattr(errors, name) for name in PLAIN + list(FIELDS)]
        for one in found:
            self.assertEqual([other for other in found if issubclass(one, other)], [one])

    def test_plain_errors_are_made_with_one_string(self):
        for name in PLAIN:
            error = getattr(errors, name)("why")
            self.assertEqual(str(error), "why")
            with self.assertRaises(errors.DequeError):
                raise error

    def test_fields_keep_the_argument(self):
        certificate = ("cycle", [("a", 0), ("b", 0)])
        for name, field in FIELDS.items():
            for argument in (certificate, 226981, 0, None):
                error = getattr(errors, name)(argument)
                self.assertIs(getattr(error, field), argument)
                self.assertIs(getattr(getattr(errors, name)(**{field: argument}), field), argument)
                with self.assertRaises(ValueError):
                    raise error


if __name__ == "__main__":
    unittest.main()
