"""Point 13: words and weather."""

import unittest

from saidchances.naming import is_weather, is_word
from tests.values import odd_values


class Words(unittest.TestCase):
    def test_letters_from_a_to_z(self):
        for letter in "abcdefghijklmnopqrstuvwxyz":
            self.assertIs(is_word(letter), True, letter)

    def test_lengths(self):
        for length in range(0, 12):
            self.assertIs(is_word("abcdefghijkl"[:length]), 1 <= length <= 8, length)
        self.assertIs(is_word("z" * 2000), False)

    def test_all_other_signs(self):
        for code in range(0, 1000):
            sign = chr(code)
            if not "a" <= sign <= "z":
                for text in [sign, "a" + sign, sign + "a", "a" + sign + "a"]:
                    self.assertIs(is_word(text), False, repr(text))

    def test_letters_beyond_a_to_z(self):
        for text in ["\u00e9", "\u00df", "\u03b1", "\u0430", "\uff41", "\u00aa", "\u017f"]:
            self.assertIs(is_word(text), False, repr(text))

    def test_capital_letters_digits_and_signs(self):
        for text in ["Rain", "RAIN", "rAin", "rain1", "1", "ra-in", "ra in", " rain", "rain ", "rain\n", "\nrain", "_"]:
            self.assertIs(is_word(text), False, repr(text))

    def test_values_that_are_no_strings(self):
        for value in odd_values():
            if not isinstance(value, str):
                self.assertIs(is_word(value), False)
        self.assertIs(is_word(["a"]), False)
        self.assertIs(is_word(("a", "b")), False)
        self.assertIs(is_word({"a": 1}), False)
        self.assertIs(is_word(b"rain"), False)

    def test_by_name(self):
        self.assertIs(is_word(value="rain"), True)
        self.assertIs(is_weather(value="wet"), True)


class Weather(unittest.TestCase):
    def test_the_three_words(self):
        for text in ["wet", "dry", "open"]:
            self.assertIs(is_weather(text), True)

    def test_other_strings(self):
        for text in ["", "snow", "Wet", "WET", "wet ", " wet", "we", "wett", "wetdry", "wet dry", "open\n", "e"]:
            self.assertIs(is_weather(text), False, repr(text))

    def test_values_that_are_no_strings(self):
        for value in odd_values():
            if not isinstance(value, str):
                self.assertIs(is_weather(value), False)
        self.assertIs(is_weather(["wet"]), False)
        self.assertIs(is_weather(("wet", "dry", "open")), False)
        self.assertIs(is_weather({"wet": 1}), False)


if __name__ == "__main__":
    unittest.main()
