"""Point 21: the text of a record and back, and texts near it."""

import re
import unittest
from fractions import Fraction
from random import Random

from saidchances.errors import BadText
from saidchances.ratios import Ratio
from saidchances.records import Record
from tests.values import odd_values

HALF, QUARTER = Ratio(1, 2), Ratio(1, 4)
WEATHERS = ["wet", "dry", "open"]
HEAD = re.compile(r"people( [a-z]{1,8}){1,3}\Z")
LINE = re.compile(r"([0-9/]+ )+(wet|dry|open) [1-9][0-9]*\Z")

TEXTS = [
    "people ann\n0 wet 1",
    "people ann bob\n1/4 3/4 open 4\n3/4 1/4 wet 1\n3/4 1/4 open 3",
    "people a bb ccc\n0 0 1 wet 10\n0 0 1 dry 2\n0 0 1 open 3\n0 1/2 0 dry 1\n1/3 0 0 wet 1\n1 1 1 open 12",
    "people bob\n1/10 dry 3\n1/9 dry 3\n1/2 wet 12\n1/2 dry 21\n2/3 wet 1\n2/3 open 100",
    "people x yy\n0 1/2 wet 1\n1/2 0 wet 1\n1/2 1/2 dry 2\n1 0 open 2",
]


def is_record_text(text):
    """The text of a record, told in another way than the package tells it."""
    head, *rows = text.split("\n")
    if not HEAD.match(head) or not rows or not all(LINE.match(row) for row in rows):
        return False
    names = head.split(" ")[1:]
    if names != sorted(set(names)):
        return False
    keys = []
    for row in rows:
        *said, weather, _ = row.split(" ")
        if len(said) != len(names) or not all(is_chance_text(word) for word in said):
            return False
        keys.append((tuple(Fraction(word) for word in said), WEATHERS.index(weather)))
    return all(one < other for one, other in zip(keys, keys[1:]))


def is_chance_text(word):
    if not re.match(r"[0-9]+(/0*[1-9][0-9]*)?\Z", word):
        return False
    return str(Fraction(word)) == word and 0 <= Fraction(word) <= 1


class TextsOfRecords(unittest.TestCase):
    def test_texts(self):
        lines = [([1, 0], "open", 4), ([HALF, QUARTER], "dry", 10), ((0, 1), "wet", 2), ([HALF, QUARTER], "wet", 1)]
        record = Record(("bob", "ann"), lines)
        self.assertEqual(str(record), "people ann bob\n0 1 open 4\n1/4 1/2 wet 1\n1/4 1/2 dry 10\n1 0 wet 2")

    def test_wet_dry_and_open_in_this_order(self):
        record = Record(["ann"], [([0], "open", 1), ([0], "dry", 2), ([0], "wet", 3)])
        self.assertEqual(str(record), "people ann\n0 wet 3\n0 dry 2\n0 open 1")

    def test_there_and_back(self):
        for text in TEXTS:
            record = Record.read(text)
            self.assertIs(type(record), Record)
            self.assertEqual(str(record), text)
            self.assertTrue(Record.read(text=text) == record)

    def test_what_is_read(self):
        record = Record.read("people ann bob\n1/4 3/4 open 4\n3/4 1/4 wet 1\n3/4 1/4 open 3")
        lines = [([Ratio(3, 4), QUARTER], "open", 4), ([QUARTER, Ratio(3, 4)], "open", 3), ([QUARTER, Ratio(3, 4)], "wet", 1)]
        self.assertTrue(record == Record(["bob", "ann"], lines))
        self.assertEqual([type(number) for cell in record.cells() for number in cell], [Ratio] * 4)
        self.assertEqual(record.days((Ratio(3, 4), QUARTER)), (1, 0, 3))

    def test_random_records(self):
        random = Random(3)
        for many in range(1, 61):
            people = random.sample(["ann", "bob", "cid"], random.randint(1, 3))
            lines = [
                ([Ratio(random.randint(0, 6), 6) for _ in people], random.choice(WEATHERS), random.randint(1, 99))
                for _ in range(many)
            ]
            record = Record(people, lines)
            self.assertTrue(is_record_text(str(record)))
            self.assertTrue(Record.read(str(record)) == record)
            self.assertEqual(str(Record.read(str(record))), str(record))

    def test_large_numbers(self):
        text = "people ann\n123456789012/999999999989 wet 999999999999\n1/2 dry 1"
        self.assertEqual(str(Record.read(text)), text)


class NearTexts(unittest.TestCase):
    def refused(self, text):
        with self.assertRaises(BadText, msg=repr(text)):
            Record.read(text)

    def judged(self, text):
        if is_record_text(text):
            self.assertEqual(str(Record.read(text)), text)
        else:
            self.refused(text)

    def test_listed_texts(self):
        for text in [
            "", "\n", "people", "people ann", "people ann\n", "people\n0 wet 1", "0 wet 1", "people ann\n\n0 wet 1",
            "people ann\n0 wet 1\n", "\npeople ann\n0 wet 1", "people ann \n0 wet 1", "people  ann\n0 wet 1",
            " people ann\n0 wet 1", "people ann\n 0 wet 1", "people ann\n0  wet 1", "people ann\n0 wet 1 ",
            "people ann\n0 wet\n1", "people ann 0 wet 1", "people ann\r\n0 wet 1", "people ann\n0\twet 1",
            "People ann\n0 wet 1", "person ann\n0 wet 1", "ann\n0 wet 1", "people Ann\n0 wet 1", "people ann1\n0 wet 1",
            "people abcdefghi\n0 wet 1", "people bob ann\n0 0 wet 1", "people ann ann\n0 0 wet 1",
            "people a b c d\n0 0 0 0 wet 1", "people ann\n0 snow 1", "people ann\n0 Wet 1", "people ann\n0 wetdry 1",
            "people ann\n0 wet 0", "people ann\n0 wet 01", "people ann\n0 wet -1", "people ann\n0 wet +1",
            "people ann\n0 wet 1/2", "people ann\n0 wet 2/1", "people ann\n0 wet 3/2", "people ann\n0 wet x",
            "people ann\n0 wet", "people ann\n0 1", "people ann\nwet 1", "people ann\n0 wet 1 1", "people ann\n1 0 wet",
            "people ann\n2/4 wet 1", "people ann\n0/1 wet 1", "people ann\n-0 wet 1", "people ann\n1/1 wet 1",
            "people ann\n2 wet 1", "people ann\n3/2 wet 1", "people ann\n-1/2 wet 1", "people ann\n1/0 wet 1",
            "people ann\nx wet 1", "people ann\n0 0 wet 1", "people ann bob\n0 wet 1", "people ann bob\n0 0 0 wet 1",
            "people ann\n0 wet 1\n0 wet 1", "people ann\n0 wet 1\n0 wet 2", "people ann\n0 dry 1\n0 wet 1",
            "people ann\n0 open 1\n0 dry 1", "people ann\n1 wet 1\n0 wet 1", "people ann\n1/2 wet 1\n1/3 wet 1",
            "people ann\n1/9 wet 1\n1/10 wet 1", "people ann bob\n0 1 wet 1\n0 0 wet 1", "people ann\n0 wet 1\npeople ann",
            "people ann\n0 wet 1\n0 dry 1\n0 wet 1", "people ann\n0 wet \u0661", "people ann\n\u0660 wet 1",
            "people \u00e9\n0 wet 1", "people ann\n0 wet 1\u2028", "people ann\u00a0bob\n0 wet 1",
        ]:
            with self.subTest(text):
                self.refused(text)

    def test_values_that_are_no_strings(self):
        for value in odd_values() + [TEXTS[0].encode(), [TEXTS[0]], TEXTS[0].split("\n"), Record.read(TEXTS[0])]:
            if not isinstance(value, str):
                with self.assertRaises(BadText):
                    Record.read(value)

    def test_signs_put_in_left_out_or_exchanged(self):
        for text in TEXTS:
            for at in range(len(text) + 1):
                self.judged(text[:at] + text[at + 1:])
                for sign in " \n/-+0123aw":
                    self.judged(text[:at] + sign + text[at:])
                    self.judged(text[:at] + sign + text[at + 1:])

    def test_words_exchanged_doubled_or_left_out(self):
        for text in TEXTS:
            words = re.split("([ \n])", text)
            for at in range(0, len(words), 2):
                self.judged("".join(words[:at] + words[at + 2:]))
                self.judged("".join(words[:at] + [words[at], " "] + words[at:]))
                for word in ["wet", "dry", "open", "people", "0", "1", "1/2", "2/4", "01", "3", "ann", ""]:
                    self.judged("".join(words[:at] + [word] + words[at + 1:]))
                for other in range(0, at, 2):
                    changed = list(words)
                    changed[at], changed[other] = words[other], words[at]
                    self.judged("".join(changed))

    def test_lines_exchanged_doubled_or_left_out(self):
        for text in TEXTS:
            lines = text.split("\n")
            for at in range(len(lines)):
                self.judged("\n".join(lines[:at] + lines[at + 1:]))
                for other in range(len(lines)):
                    self.judged("\n".join(lines[:at] + [lines[other]] + lines[at:]))
                    changed = list(lines)
                    changed[at], changed[other] = lines[other], lines[at]
                    self.judged("\n".join(changed))


if __name__ == "__main__":
    unittest.main()
