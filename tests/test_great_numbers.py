"""Points 11, 15 and 21: texts with integers of any size, whatever the interpreter is set to."""

import sys
import unittest
from random import Random

from saidchances.errors import BadText
from saidchances.ratios import Ratio
from saidchances.records import Record

# The least, the usual and no limit of Python's own texts of integers.
LIMITS = (640, 4300, 0)
SIZES = [1, 2, 63, 64, 65, 127, 128, 129, 191, 192, 193, 639, 640, 641, 4299, 4300, 4301, 9999]


def own_text(integer):
    """Python's own text of an integer, without a limit."""
    limit = sys.get_int_max_str_digits()
    sys.set_int_max_str_digits(0)
    text = str(integer)
    sys.set_int_max_str_digits(limit)
    return text


def integers():
    """Integers with noughts and nines where parts of texts may begin and end, and others."""
    random = Random(8)
    found = [0]
    for size in SIZES:
        found += [10 ** size - 1, 10 ** size, 10 ** size + 1, 10 ** size + 10 ** (size // 2), 7 * 10 ** size - 3]
        found.append(random.randrange(10 ** (size - 1), 10 ** size))
    return found


class GreatNumbers(unittest.TestCase):
    def setUp(self):
        self.addCleanup(sys.set_int_max_str_digits, sys.get_int_max_str_digits())

    def test_texts_of_whole_ratios(self):
        for limit in LIMITS:
            sys.set_int_max_str_digits(limit)
            for integer in integers():
                text = own_text(integer)
                self.assertTrue(str(Ratio(integer)) == text)
                self.assertTrue(Ratio.read(text).top == integer)
                if integer != 0:
                    self.assertTrue(str(Ratio(-integer)) == "-" + text)
                    self.assertTrue(Ratio.read("-" + text).top == -integer)

    def test_texts_of_quotients(self):
        for limit in LIMITS:
            sys.set_int_max_str_digits(limit)
            for integer in integers():
                for top in [integer, -integer, 2, -2]:
                    ratio = Ratio(top, 2 * integer + 1)
                    text = own_text(ratio.top) + "/" + own_text(ratio.bottom) if integer != 0 else own_text(top)
                    self.assertTrue(str(ratio) == text)
                    back = Ratio.read(text)
                    self.assertTrue((back.top, back.bottom) == (ratio.top, ratio.bottom))

    def test_what_the_operations_return(self):
        sys.set_int_max_str_digits(640)
        great = Ratio(10 ** 39)
        for _ in range(7):
            great = great * great
        self.assertTrue(str(great) == "1" + "0" * 4992)
        self.assertTrue(str(-great + 5) == "-" + "9" * 4991 + "5")
        self.assertTrue(str((great + 1).over(great)) == "1" + "0" * 4991 + "1/1" + "0" * 4992)
        self.assertTrue(Ratio.read(str(great)) == great)

    def test_great_texts_that_are_none_of_a_ratio(self):
        for limit in LIMITS:
            sys.set_int_max_str_digits(limit)
            for text in [
                "0" * 5000, "0" + "1" * 5000, "-0" + "1" * 5000, "+" + "1" * 5000, "1" * 5000 + "/1", "1/" + "0" * 5000,
                "2/" + "2" * 5000, "1/0" + "2" * 5000, "1" * 5000 + "x", "1" * 5000 + " ", "1" * 2500 + "_" + "1" * 2500,
                "1" * 2500 + "\u0661" + "1" * 2500, "3" * 5000 + "/" + "3" * 5000,
            ]:
                with self.assertRaises(BadText):
                    Ratio.read(text)

    def test_texts_of_records(self):
        for limit in LIMITS:
            sys.set_int_max_str_digits(limit)
            for days in integers()[1:]:
                chance = Ratio(1, days + 1)
                record = Record(["ann"], [([0], "wet", days), ([chance], "dry", days), ([0], "open", 1)])
                number, bottom = own_text(days), own_text(days + 1)
                text = "people ann\n0 wet " + number + "\n0 open 1\n1/" + bottom + " dry " + number
                self.assertTrue(str(record) == text)
                self.assertTrue(Record.read(text) == record)
                self.assertEqual(Record.read(text).counts("ann", 0), (days, 0, 1))

    def test_great_texts_that_are_none_of_a_record(self):
        for text in ["people ann\n0 wet " + days for days in ["0" * 5000, "0" + "1" * 5000, "1" * 5000 + "/3"]]:
            with self.assertRaises(BadText):
                Record.read(text)


if __name__ == "__main__":
    unittest.main()
