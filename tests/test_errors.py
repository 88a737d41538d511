"""Points 10 and 12: the errors, by position and by name."""

import unittest

from saidchances import errors
from tests.values import odd_values

PLAIN = ["ByZero", "BadText", "OpenDays", "NoOutcomes", "NothingToUndo", "UnlikeProfiles"]
NAMED = {
    "BadNumber": "value", "BadPeople": "people", "BadLines": "lines", "BadLine": "line", "NoCell": "cell",
    "BadCells": "cells", "UnknownName": "name", "NotSaid": "chance", "BadChance": "value", "BadActor": "actor",
    "BadScore": "score", "BadGains": "gains", "BadStakes": "stakes", "NotTwo": "count", "BadCount": "count",
    "NotReliable": "name", "BadWeight": "value", "BadPairs": "pairs", "BadProfile": "profile",
}


def error_class(name):
    return getattr(errors, name)


class Errors(unittest.TestCase):
    def test_plain_errors_are_made_without_values(self):
        for name in PLAIN:
            with self.subTest(name):
                error = error_class(name)()
                self.assertIsInstance(error, errors.RainError)
                self.assertEqual(vars(error), {})

    def test_named_errors_keep_the_very_object_by_position(self):
        for name, attribute in NAMED.items():
            for value in odd_values():
                error = error_class(name)(value)
                self.assertIs(getattr(error, attribute), value, name)

    def test_named_errors_keep_the_very_object_by_name(self):
        for name, attribute in NAMED.items():
            for value in odd_values():
                error = error_class(name)(**{attribute: value})
                self.assertIs(getattr(error, attribute), value, name)

    def test_named_errors_have_just_their_attribute_and_need_it(self):
        for name, attribute in NAMED.items():
            with self.subTest(name):
                self.assertEqual(vars(error_class(name)(5)), {attribute: 5})
                with self.assertRaises(TypeError):
                    error_class(name)()

    def test_all_errors_are_there_and_no_others(self):
        found = [name for name, value in vars(errors).items() if isinstance(value, type)]
        self.assertEqual(sorted(found), sorted(["RainError", *PLAIN, *NAMED]))

    def test_rain_error_is_a_value_error(self):
        self.assertEqual(errors.RainError.__bases__, (ValueError,))

    def test_no_other_error_is_a_kind_of_another_one(self):
        for name in [*PLAIN, *NAMED]:
            with self.subTest(name):
                self.assertEqual(error_class(name).__bases__, (errors.RainError,))

    def test_errors_are_raised_and_caught_by_their_kind(self):
        for name in PLAIN:
            with self.subTest(name):
                with self.assertRaises(error_class(name)):
                    raise error_class(name)()
        for name, attribute in NAMED.items():
            with self.subTest(name):
                with self.assertRaises(ValueError) as caught:
                    raise error_class(name)(**{attribute: [1]})
                self.assertEqual(getattr(caught.exception, attribute), [1])


if __name__ == "__main__":
    unittest.main()
