"""Points 14 to 16: ratios, their texts, numbers and chances."""

import unittest
from fractions import Fraction

from saidchances.errors import BadNumber, BadText, ByZero
from saidchances.ratios import Ratio, as_ratio, greatest, is_chance, is_number, least, total
from tests.values import odd_values

SMALL = [(top, bottom) for top in range(-7, 8) for bottom in range(-6, 7) if bottom != 0]
LARGE = [(10 ** 40 - 1, 10 ** 39 + 7), (-(10 ** 39), 10 ** 40 - 3), (6 * 10 ** 39, -4 * 10 ** 39)]
HALF = Ratio(1, 2)


def fraction(number):
    """The same number in Python's own terms."""
    return Fraction(number.top, number.bottom) if isinstance(number, Ratio) else Fraction(number)


class Quotients(unittest.TestCase):
    def check(self, ratio, expected):
        self.assertIs(type(ratio), Ratio)
        self.assertEqual((ratio.top, ratio.bottom), (expected.numerator, expected.denominator))

    def test_lowest_terms(self):
        for top, bottom in SMALL + LARGE:
            self.check(Ratio(top, bottom), Fraction(top, bottom))

    def test_signs_common_divisors_and_nought(self):
        for given, expected in [
            ((-2, -6), (1, 3)), ((2, -6), (-1, 3)), ((-2, 6), (-1, 3)), ((2, 6), (1, 3)),
            ((0, 5), (0, 1)), ((0, -5), (0, 1)), ((12, 4), (3, 1)), ((-12, 4), (-3, 1)), ((7, 7), (1, 1)),
        ]:
            ratio = Ratio(*given)
            self.assertEqual((ratio.top, ratio.bottom), expected)

    def test_bottom_is_one_if_left_out(self):
        self.check(Ratio(5), Fraction(5))
        self.check(Ratio(-5), Fraction(-5))
        self.check(Ratio(0), Fraction(0))

    def test_by_name(self):
        self.check(Ratio(top=2, bottom=4), Fraction(1, 2))
        self.check(Ratio(bottom=4, top=2), Fraction(1, 2))
        self.check(Ratio(top=2), Fraction(2))

    def test_bottom_0(self):
        for top in [0, 1, -1, 10 ** 40]:
            with self.assertRaises(ByZero):
                Ratio(top, 0)

    def test_parts_are_integers_and_cannot_be_set(self):
        ratio = Ratio(2, 4)
        self.assertIs(type(ratio.top), int)
        self.assertIs(type(ratio.bottom), int)
        with self.assertRaises(AttributeError):
            ratio.top = 5
        with self.assertRaises(AttributeError):
            ratio.bottom = 5
        self.check(ratio, Fraction(1, 2))

    def test_operations_with_ratios(self):
        for one in SMALL[::3] + LARGE:
            for other in SMALL[::4] + LARGE:
                left, right = Ratio(*one), Ratio(*other)
                a, b = Fraction(*one), Fraction(*other)
                self.check(left + right, a + b)
                self.check(left - right, a - b)
                self.check(left * right, a * b)
                self.assertIs(left == right, a == b)
                self.assertIs(left != right, a != b)
                self.assertIs(left.below(right), a < b)
                if b != 0:
                    self.check(left.over(right), a / b)
                self.check(left, a)
                self.check(right, b)

    def test_operations_with_integers_on_the_right(self):
        for one in SMALL + LARGE:
            for number in [0, 1, -1, 2, -3, 6, 10 ** 40]:
                left, a = Ratio(*one), Fraction(*one)
                self.check(left + number, a + number)
                self.check(left - number, a - number)
                self.check(left * number, a * number)
                self.assertIs(left == number, a == number)
                self.assertIs(left != number, a != number)
                self.assertIs(left.below(number), a < number)
                if number != 0:
                    self.check(left.over(number), a / number)

    def test_opposite_and_size(self):
        for one in SMALL + LARGE:
            self.check(-Ratio(*one), -Fraction(*one))
            self.check(Ratio(*one).size(), abs(Fraction(*one)))

    def test_over_0(self):
        for ratio in [Ratio(0), HALF, Ratio(-3)]:
            for nought in [0, Ratio(0), Ratio(0, -7)]:
                with self.assertRaises(ByZero):
                    ratio.over(nought)

    def test_below_is_strict(self):
        self.assertIs(HALF.below(HALF), False)
        self.assertIs(Ratio(2).below(2), False)
        self.assertIs(Ratio(-1, 2).below(Ratio(-1, 3)), True)
        self.assertIs(Ratio(-1, 3).below(Ratio(-1, 2)), False)

    def test_methods_by_name(self):
        self.check(HALF.over(number=3), Fraction(1, 6))
        self.assertIs(HALF.below(number=1), True)

    def test_equality_with_integers(self):
        self.assertTrue(Ratio(4, 2) == 2)
        self.assertTrue(2 == Ratio(4, 2))
        self.assertFalse(Ratio(4, 2) == 3)
        self.assertFalse(Ratio(5, 2) == 2)
        self.assertTrue(Ratio(5, 2) != 2)

    def test_equality_with_other_kinds(self):
        for ratio in [Ratio(0), Ratio(1), HALF]:
            for value in odd_values():
                if isinstance(value, (int, Ratio)) and not isinstance(value, bool):
                    continue
                self.assertIs(ratio == value, False)
                self.assertIs(ratio != value, True)
        self.assertFalse(Ratio(1) == True)
        self.assertFalse(Ratio(0) == False)
        self.assertFalse(HALF == 0.5)
        self.assertFalse(HALF == "1/2")
        self.assertFalse(HALF == (1, 2))


class Texts(unittest.TestCase):
    def test_texts_and_back(self):
        for text, top, bottom in [
            ("0", 0, 5), ("1", 3, 3), ("-1", 1, -1), ("1/2", 2, 4), ("-1/2", 1, -2), ("10", 10, 1), ("-30", -60, 2),
            ("100/101", 100, 101), ("-7/3", 14, -6), ("9" * 40, 10 ** 40 - 1, 1),
        ]:
            self.assertEqual(str(Ratio(top, bottom)), text)
            back = Ratio.read(text)
            self.assertIs(type(back), Ratio)
            self.assertTrue(back == Ratio(top, bottom))

    def test_texts_of_all_small_ratios(self):
        for top, bottom in SMALL + LARGE:
            text = str(Fraction(top, bottom))
            self.assertEqual(str(Ratio(top, bottom)), text)
            self.assertEqual(str(Ratio.read(text)), text)

    def test_long_texts(self):
        for text in ["1" * 2000, "-" + "9" * 1999, "1/" + "3" * 1000]:
            self.assertEqual(str(Ratio.read(text)), text)

    def test_by_name(self):
        self.assertTrue(Ratio.read(text="-3/4") == Ratio(-3, 4))

    def test_bad_texts(self):
        for text in [
            "2/4", "+3", "-0", "0/1", "3/1", "1/-2", "01", "", "-", "/", "+", "-/2", "1/", "/2", "1//2", "1/2/3", "00",
            "0/0", "1/0", "-1/0", "0/2", "-0/1", "-0/3", "-01", "1/02", "01/2", "--1", "1-", "1/2-", "-1/-2", "+1/2",
            "1/+2", "1.5", "0.5", "1e3", "1_000", "0x1", "a", "x/2", "1/x", "1,2", "-3/1", "-2/4", "6/3", "None",
            "1\\2", "1:2", "\u0663", "\u00b2", "1/\u0663", "\uff11", "\u0661/\u0662",
        ]:
            with self.subTest(text):
                with self.assertRaises(BadText):
                    Ratio.read(text)

    def test_blanks_and_newlines(self):
        for blank in [" ", "\n", "\t", "\r", "\u00a0"]:
            for text in ["", "3", "-3", "1/2", "-1/2"]:
                for at in range(len(text) + 1):
                    with self.assertRaises(BadText):
                        Ratio.read(text[:at] + blank + text[at:])

    def test_each_string_of_few_signs(self):
        signs = "012/-+ "
        texts = [""]
        good = {str(number) for number in range(-999, 10000)}
        good |= {str(Fraction(top, bottom)) for top in range(-9, 100) for bottom in range(1, 100)}
        for _ in range(4):
            texts = [text + sign for text in texts for sign in signs]
            for text in texts:
                if text in good:
                    self.assertEqual(str(Ratio.read(text)), text)
                else:
                    with self.assertRaises(BadText, msg=text):
                        Ratio.read(text)

    def test_values_that_are_no_strings(self):
        for value in odd_values():
            if not isinstance(value, str):
                with self.assertRaises(BadText):
                    Ratio.read(value)
        for value in [b"1/2", ["1"], ("1", "2"), {"1": "2"}]:
            with self.assertRaises(BadText):
                Ratio.read(value)


class Numbers(unittest.TestCase):
    def test_numbers(self):
        for value in [0, 1, -1, 10 ** 40, HALF, Ratio(0), Ratio(-5, 3)]:
            self.assertIs(is_number(value), True)

    def test_values_that_are_no_numbers(self):
        for value in odd_values():
            good = isinstance(value, (int, Ratio)) and value is not True and value is not False
            self.assertIs(is_number(value), good)
        for value in [True, False, None, 0.5, 1.0, "1", "1/2", [1], (1, 2), {}, Fraction(1, 2)]:
            self.assertIs(is_number(value), False)

    def test_chances(self):
        for value in [0, 1, HALF, Ratio(0), Ratio(1), Ratio(1, 10 ** 12), Ratio(10 ** 12 - 1, 10 ** 12)]:
            self.assertIs(is_chance(value), True)

    def test_just_outside(self):
        for value in [-1, 2, Ratio(-1, 10 ** 12), Ratio(10 ** 12 + 1, 10 ** 12), Ratio(-1), Ratio(2), 10 ** 40]:
            self.assertIs(is_chance(value), False)

    def test_values_that_are_no_chances(self):
        for value in odd_values():
            if not is_number(value):
                self.assertIs(is_chance(value), False)
        for value in [True, False, 0.5, 1.0, Fraction(1, 2)]:
            self.assertIs(is_chance(value), False)

    def test_as_ratio(self):
        for value in [0, 1, -7, 10 ** 40, HALF, Ratio(-5, 3)]:
            self.assertIs(type(as_ratio(value)), Ratio)
            self.assertTrue(as_ratio(value) == value)

    def test_as_ratio_of_other_values(self):
        for value in odd_values():
            if is_number(value):
                continue
            with self.assertRaises(BadNumber) as caught:
                as_ratio(value)
            self.assertIs(caught.exception.value, value)

    def test_total(self):
        self.assertIs(type(total([])), Ratio)
        self.assertTrue(total([]) == 0)
        self.assertTrue(total(()) == 0)
        self.assertIs(type(total([2, 3])), Ratio)
        self.assertTrue(total([2, 3]) == 5)
        self.assertTrue(total([HALF, 3, Ratio(-1, 3)]) == Ratio(19, 6))
        self.assertTrue(total((HALF, 3, Ratio(-1, 3))) == Ratio(19, 6))

    def test_least_and_greatest(self):
        for numbers in [
            [5], [HALF], [0, HALF, -1], [HALF, Ratio(1, 3), Ratio(2, 3)], [Ratio(-1, 2), Ratio(-1, 3)], [3, 3, 2, 3],
            [Ratio(4, 2), 2, Ratio(7, 3)], [Ratio(2, 3), HALF, Ratio(1, 3)], [-5, -2, -9],
        ]:
            values = [fraction(number) for number in numbers]
            for given in [numbers, tuple(numbers), list(reversed(numbers))]:
                self.assertIs(type(least(given)), Ratio)
                self.assertIs(type(greatest(given)), Ratio)
                self.assertEqual(fraction(least(given)), min(values))
                self.assertEqual(fraction(greatest(given)), max(values))

    def test_nothing_is_changed(self):
        numbers = [3, HALF, Ratio(-1, 3)]
        kept = list(numbers)
        total(numbers), least(numbers), greatest(numbers)
        self.assertEqual([id(number) for number in numbers], [id(number) for number in kept])

    def test_by_name(self):
        self.assertIs(is_number(value=1), True)
        self.assertIs(is_chance(value=1), True)
        self.assertTrue(as_ratio(value=1) == 1)
        self.assertTrue(total(numbers=[1]) == 1)
        self.assertTrue(least(numbers=[1, 2]) == 1)
        self.assertTrue(greatest(numbers=[1, 2]) == 2)


if __name__ == "__main__":
    unittest.main()
