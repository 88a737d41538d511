"""Points 17 to 20: records, what they tell, and records of some of the people."""

import unittest
from fractions import Fraction
from itertools import permutations
from random import Random

from saidchances.errors import BadLine, BadLines, BadPeople, NoCell, NotSaid, UnknownName
from saidchances.ratios import Ratio
from saidchances.records import Record
from tests.values import deep, odd_values

HALF, THIRD, QUARTER = Ratio(1, 2), Ratio(1, 3), Ratio(1, 4)
WEATHERS = ["wet", "dry", "open"]
NO_PEOPLE = [
    [], (), ["ann", "bob", "cid", "eve"], ["ann", "ann"], ["ann", "bob", "ann"], ["Ann"], [""], ["abcdefghi"],
    ["ann", 5], ["ann", None], "ann", "a", {"ann": 1}, None, 5, True, [["ann"]], ["ann", ["bob"]], [{}],
    ["ann "], [Ratio(1)], [("ann",)], ["ann", True], ["ann1"], [deep(2000)],
]


def crossed():
    return Record(["bob", "ann"], [([HALF, QUARTER], "open", 4), ([QUARTER, HALF], "wet", 1), ([QUARTER, 1], "dry", 3)])


def fractions(cell):
    return tuple(Fraction(number.top, number.bottom) for number in cell)


def random_lines(random, people, many):
    """Lines as Python's own fractions: (said, weather, days)."""
    chances = [Fraction(random.randint(0, bottom), bottom) for bottom in (1, 2, 3, 4, 5, 7, 10 ** 12)]
    return [
        (tuple(random.choice(chances) for _ in range(people)), random.choice(WEATHERS), random.randint(1, 9))
        for _ in range(many)
    ]


def as_given(random, lines):
    """The same lines as a caller passes them, integers and Ratios, lists and tuples mixed."""
    given = []
    for said, weather, days in lines:
        numbers = [
            int(chance) if chance.denominator == 1 and random.random() < 0.5
            else Ratio(chance.numerator, chance.denominator)
            for chance in said
        ]
        given.append((random.choice([list, tuple])(numbers), weather, days))
    return random.choice([list, tuple])(given)


def expected_days(people, lines):
    """The days of each cell, its chances in ascending order of the names."""
    order = sorted(range(len(people)), key=lambda at: people[at])
    found = {}
    for said, weather, days in lines:
        cell = tuple(said[at] for at in order)
        found.setdefault(cell, [0, 0, 0])[WEATHERS.index(weather)] += days
    return {cell: tuple(days) for cell, days in found.items()}


class WhatRecordsTell(unittest.TestCase):
    def test_random_records(self):
        random = Random(1)
        for many in range(1, 61):
            people = random.sample(["ann", "bob", "cid", "b", "bobby", "zoezoezo"], random.randint(1, 3))
            lines = random_lines(random, len(people), many)
            record = Record(random.choice([list, tuple])(people), as_given(random, lines))
            self.check(record, people, lines)

    def check(self, record, people, lines):
        days = expected_days(people, lines)
        names = sorted(people)
        self.assertEqual(record.people(), names)
        self.assertEqual([fractions(cell) for cell in record.cells()], sorted(days))
        self.assertEqual([record.days(cell) for cell in record.cells()], [days[cell] for cell in sorted(days)])
        self.assertIs(record.closed(), all(row[2] == 0 for row in days.values()))
        self.assertEqual(record.all_days(), sum(row[2] for row in lines))
        for place, name in enumerate(names):
            said = sorted({cell[place] for cell in days})
            self.assertEqual(list(fractions(record.said(name))), said)
            for chance in record.said(name):
                mine = [row for cell, row in days.items() if cell[place] == fractions([chance])[0]]
                counts = tuple(sum(row[at] for row in mine) for at in range(3))
                self.assertEqual(record.counts(name, chance), counts)
                self.assertEqual(fractions([record.due(name, chance)])[0], fractions([chance])[0] * sum(counts))

    def test_kinds_of_answers(self):
        record = crossed()
        self.assertIs(type(record.people()), list)
        self.assertIs(type(record.cells()), list)
        self.assertIs(type(record.said("ann")), list)
        for cell in record.cells():
            self.assertIs(type(cell), tuple)
            self.assertEqual([type(number) for number in cell], [Ratio, Ratio])
            self.assertIs(type(record.days(cell)), tuple)
            self.assertEqual([type(number) for number in record.days(cell)], [int] * 3)
        self.assertEqual([type(number) for number in record.said("ann")], [Ratio] * 3)
        self.assertIs(type(record.counts("bob", QUARTER)), tuple)
        self.assertEqual([type(number) for number in record.counts("bob", QUARTER)], [int] * 3)
        self.assertIs(type(record.due("ann", 1)), Ratio)
        self.assertIs(type(record.closed()), bool)
        self.assertIs(type(record.all_days()), int)

    def test_the_order_of_people_is_that_of_the_chances(self):
        record = Record(["cid", "ann", "bob"], [([1, 0, HALF], "wet", 2)])
        self.assertEqual(record.people(), ["ann", "bob", "cid"])
        self.assertTrue(record.cells() == [(0, HALF, 1)])
        self.assertTrue(record.said("cid") == [1])

    def test_people_in_any_order(self):
        lines = {"ann": 0, "bob": HALF, "cid": THIRD}
        records = [
            Record(names, [([lines[name] for name in names], "wet", 2)]) for names in permutations(["ann", "bob", "cid"])
        ]
        for record in records:
            self.assertTrue(record == records[0])

    def test_names_are_ordered_as_strings(self):
        record = Record(["ba", "b", "az"], [([0, HALF, 1], "wet", 1)])
        self.assertEqual(record.people(), ["az", "b", "ba"])

    def test_chances_are_ordered_by_size(self):
        chances = [Ratio(9, 10), Ratio(1, 10), 0, 1, Ratio(2, 3), THIRD, Ratio(333333333333, 10 ** 12)]
        record = Record(["ann"], [([chance], "open", 1) for chance in chances])
        self.assertEqual(
            [str(chance) for chance in record.said("ann")], ["0", "1/10", "333333333333/1000000000000", "1/3", "2/3", "9/10", "1"]
        )

    def test_lines_that_count_together(self):
        lines = [([0, HALF], "wet", 2), ((Ratio(0), Ratio(2, 4)), "wet", 3), ([0, HALF], "dry", 1), ([HALF, 0], "wet", 7)]
        record = Record(["ann", "bob"], lines)
        self.assertEqual(record.days((0, HALF)), (5, 1, 0))
        self.assertEqual(record.days((HALF, 0)), (7, 0, 0))
        self.assertEqual(record.counts("ann", 0), (5, 1, 0))

    def test_closed(self):
        self.assertIs(Record(["ann"], [([0], "wet", 1), ([0], "dry", 1)]).closed(), True)
        self.assertIs(Record(["ann"], [([0], "wet", 1), ([1], "open", 1)]).closed(), False)

    def test_by_name(self):
        record = Record(people=["ann"], lines=[([HALF], "wet", 3)])
        self.assertEqual(record.days(cell=(HALF,)), (3, 0, 0))
        self.assertTrue(record.said(name="ann") == [HALF])
        self.assertEqual(record.counts(name="ann", chance=HALF), (3, 0, 0))
        self.assertTrue(record.due(name="ann", chance=HALF) == Ratio(3, 2))
        self.assertTrue(record.of(people=["ann"]) == record)

    def test_changes_to_what_was_passed_have_no_effect(self):
        people, said = ["bob", "ann"], [HALF, QUARTER]
        lines = [(said, "wet", 3)]
        record = Record(people, lines)
        before = str(record)
        people[0], said[0] = "cid", 1
        people.append("eve")
        said.append(0)
        lines.append(([0, 0], "dry", 1))
        self.assertEqual(str(record), before)
        self.assertEqual(record.people(), ["ann", "bob"])
        self.assertTrue(record.cells() == [(QUARTER, HALF)])

    def test_what_was_passed_is_not_changed(self):
        people, said = ["bob", "ann"], [HALF, 1]
        lines = [(said, "wet", 3), ((0, 0), "dry", 1)]
        Record(people, lines).of(people)
        self.assertEqual(people, ["bob", "ann"])
        self.assertEqual((said[0] is HALF, said[1], len(said)), (True, 1, 2))
        self.assertEqual(len(lines), 2)
        self.assertIs(lines[0][0], said)

    def test_answers_are_new_on_each_call(self):
        record = crossed()
        before = str(record)
        for answer in [record.people, record.cells, lambda: record.said("ann")]:
            first = answer()
            kept = list(first)
            first.reverse()
            first.append(None)
            self.assertTrue(answer() == kept)
            self.assertIsNot(answer(), answer())
        self.assertEqual(str(record), before)


def is_line(said, weather, days):
    """Whether this is a line for two people, told in another way than the package tells it."""
    chances = ["0", "1", "1/2"]
    return (
        type(said) in (list, tuple) and len(said) == 2
        and all(type(chance) in (int, Ratio) and str(chance) in chances for chance in said)
        and type(weather) is str and weather in WEATHERS
        and type(days) is int and days > 0
    )


class WrongRecords(unittest.TestCase):
    def refused(self, error, attribute, value, people, lines):
        with self.assertRaises(error) as caught:
            Record(people, lines)
        self.assertIs(getattr(caught.exception, attribute), value)

    def test_people(self):
        lines = [([HALF], "wet", 1)]
        for people in NO_PEOPLE:
            self.refused(BadPeople, "people", people, people, lines)

    def test_people_of_any_kind(self):
        for people in odd_values():
            if people not in (["ann"], ("ann",), ["ann", "bob"]):
                self.refused(BadPeople, "people", people, people, [([HALF], "wet", 1)])

    def test_lines(self):
        for lines in [[], (), None, 5, True, "wet", {}, {"ann": 1}, HALF, ""]:
            self.refused(BadLines, "lines", lines, ["ann"], lines)

    def test_lines_of_any_kind(self):
        for lines in odd_values():
            if isinstance(lines, (list, tuple)) and len(lines) > 0:
                self.refused(BadLine, "line", lines[0], ["ann"], lines)
            else:
                self.refused(BadLines, "lines", lines, ["ann"], lines)

    def test_line(self):
        bad = [
            [[HALF], "wet", 1], ([HALF], "wet"), ([HALF], "wet", 1, 1), (), ([HALF, HALF], "wet", 1), ([], "wet", 1),
            (HALF, "wet", 1), ({HALF.top: 1}, "wet", 1), ("1", "wet", 1), ([None], "wet", 1), ([True], "wet", 1),
            ([False], "wet", 1), ([Ratio(-1, 10 ** 12)], "wet", 1), ([Ratio(10 ** 12 + 1, 10 ** 12)], "wet", 1),
            ([2], "wet", 1), ([-1], "wet", 1), ([[HALF]], "wet", 1), (["1/2"], "wet", 1), ([HALF], "snow", 1),
            ([HALF], "Wet", 1), ([HALF], None, 1), ([HALF], ["wet"], 1), ([HALF], {}, 1), ([HALF], HALF, 1),
            ([HALF], "wet", 0), ([HALF], "wet", -1), ([HALF], "wet", True), ([HALF], "wet", Ratio(1)),
            ([HALF], "wet", "1"), ([HALF], "wet", None), ([HALF], "wet", [1]), ([HALF], 1, "wet"),
            {"said": [HALF]}, "wet", None, 5, HALF,
        ]
        good = ([HALF], "wet", 1)
        for line in bad:
            self.refused(BadLine, "line", line, ["ann"], [line])
            self.refused(BadLine, "line", line, ["ann"], (good, line))
            self.refused(BadLine, "line", line, ["ann"], [good, line, [], good])

    def test_line_of_any_kind(self):
        for line in odd_values():
            if line != ((HALF,), "wet", 1):
                self.refused(BadLine, "line", line, ["ann"], [([0], "dry", 1), line])

    def test_parts_of_a_line_of_any_kind(self):
        for value in odd_values():
            self.check_line((value, "wet", 1))
            self.check_line(([HALF, value], "wet", 1))
            self.check_line(([value, 0], "wet", 1))
            self.check_line(([HALF, 0], value, 1))
            self.check_line(([HALF, 0], "wet", value))

    def check_line(self, line):
        if is_line(*line):
            Record(["ann", "bob"], [line])
        else:
            self.refused(BadLine, "line", line, ["ann", "bob"], [line])

    def test_the_first_error_counts(self):
        wrong, later = ([HALF], "wet", 0), ([2], "wet", 1)
        self.refused(BadPeople, "people", "ann", "ann", [])
        people = ["ann", "ann"]
        self.refused(BadPeople, "people", people, people, [wrong])
        lines = []
        self.refused(BadLines, "lines", lines, ["ann"], lines)
        self.refused(BadLine, "line", wrong, ["ann"], [([HALF], "wet", 1), wrong, later])
        self.refused(BadLine, "line", later, ["ann"], [later, wrong])


class WrongQuestions(unittest.TestCase):
    def test_no_cell(self):
        record = crossed()
        cells = [
            [QUARTER, HALF], (HALF, HALF), (HALF,), (QUARTER, HALF, HALF), (), ("1/4", "1/2"), (QUARTER, True), None,
            (1, True), (True, QUARTER), ([QUARTER, HALF],), ((QUARTER, HALF),), (QUARTER, None), "ann", {}, ({}, HALF),
            (QUARTER, [HALF]), (HALF, -1),
        ]
        for cell in cells + odd_values():
            with self.assertRaises(NoCell) as caught:
                record.days(cell)
            self.assertIs(caught.exception.cell, cell)

    def test_true_and_false_are_no_chances_of_cells(self):
        record = Record(["ann", "bob"], [([0, 1], "wet", 1)])
        self.assertEqual(record.days((0, 1)), (1, 0, 0))
        self.assertEqual(record.days((Ratio(0), Ratio(1))), (1, 0, 0))
        for cell in [(False, True), (0, True), (False, 1), [0, 1]]:
            with self.assertRaises(NoCell) as caught:
                record.days(cell)
            self.assertIs(caught.exception.cell, cell)

    def test_unknown_names(self):
        record = crossed()
        for name in odd_values() + ["an", "annb", "ANN", ("ann",), ["ann"], "bob "]:
            if name in ("ann", "bob"):
                continue
            for question in [
                record.said, lambda value: record.counts(value, HALF), lambda value: record.due(value, HALF),
                lambda value: record.counts(value, "no number"), lambda value: record.due(value, None),
                lambda value: record.counts(value, THIRD), lambda value: record.due(value, []),
            ]:
                with self.assertRaises(UnknownName) as caught:
                    question(name)
                self.assertIs(caught.exception.name, name)

    def test_chances_that_were_not_said(self):
        record = Record(["ann", "bob"], [([0, HALF], "wet", 1), ([QUARTER, 1], "dry", 1)])
        said = {"ann": ["0", "1/4"], "bob": ["1/2", "1"]}
        for name in ["ann", "bob"]:
            for chance in odd_values() + [QUARTER, THIRD, "1/4", "0", [QUARTER], (0,), 0.5, 1.0]:
                if type(chance) in (int, Ratio) and str(chance) in said[name]:
                    continue
                for question in [record.counts, record.due]:
                    with self.assertRaises(NotSaid) as caught:
                        question(name, chance)
                    self.assertIs(caught.exception.chance, chance)

    def test_integers_stand_for_ratios(self):
        record = Record(["ann"], [([Ratio(1)], "wet", 2), ([0], "dry", 3)])
        self.assertEqual(record.counts("ann", 1), (2, 0, 0))
        self.assertEqual(record.counts("ann", Ratio(0)), (0, 3, 0))
        self.assertTrue(record.due("ann", 1) == 2)
        self.assertTrue(record.due("ann", 0) == 0)


class SomePeople(unittest.TestCase):
    def test_random_parts(self):
        random = Random(2)
        for many in range(1, 30):
            people = random.sample(["ann", "bob", "cid"], 3)
            lines = random_lines(random, 3, many)
            record = Record(people, as_given(random, lines))
            for count in range(1, 4):
                for some in permutations(people, count):
                    part = record.of(random.choice([list, tuple])(some))
                    left = [
                        (tuple(said[people.index(name)] for name in some), weather, days) for said, weather, days in lines
                    ]
                    WhatRecordsTell.check(self, part, list(some), left)

    def test_days_that_then_are_the_same_count_together(self):
        record = Record(["ann", "bob"], [([0, HALF], "wet", 1), ([0, 1], "wet", 2), ([1, 1], "open", 4)])
        part = record.of(["ann"])
        self.assertEqual((part.days((0,)), part.days((1,))), ((3, 0, 0), (0, 0, 4)))
        self.assertEqual(record.of(["bob"]).days((1,)), (2, 0, 4))

    def test_all_people(self):
        record = crossed()
        self.assertTrue(record.of(["ann", "bob"]) == record)
        self.assertTrue(record.of(("bob", "ann")) == record)

    def test_refused_lists(self):
        record = crossed()
        bad = [
            [], (), ["eve"], ["ann", "eve"], ["ann", "ann"], ["ann", "bob", "ann"], ["ann", "bob", "cid"], "ann", None,
            ["ann", None], [True], [["ann"]], {"ann": 1}, ["ann", {}], ["Ann"], [("ann",)], 5, HALF, [HALF], [deep(2000)],
        ]
        for people in bad:
            with self.assertRaises(BadPeople) as caught:
                record.of(people)
            self.assertIs(caught.exception.people, people)
        for people in odd_values():
            if people in (["ann"], ("ann",), ["ann", "bob"]):
                continue
            with self.assertRaises(BadPeople) as caught:
                record.of(people)
            self.assertIs(caught.exception.people, people)


class Equality(unittest.TestCase):
    def test_the_order_of_the_lines_is_of_no_account(self):
        lines = [([0, HALF], "wet", 1), ([HALF, 1], "dry", 2), ([0, HALF], "open", 3), ([0, 0], "wet", 4)]
        records = [Record(["ann", "bob"], list(some)) for some in permutations(lines)]
        for record in records:
            self.assertTrue(record == records[0])
            self.assertFalse(record != records[0])
            self.assertEqual(str(record), str(records[0]))
            self.assertTrue(record.cells() == records[0].cells())

    def test_lines_in_parts_and_people_exchanged(self):
        one = Record(["ann", "bob"], [([0, 1], "wet", 3)])
        self.assertTrue(one == Record(["ann", "bob"], [([0, 1], "wet", 1), ([Ratio(0), Ratio(1)], "wet", 2)]))
        self.assertTrue(one == Record(["bob", "ann"], [([1, 0], "wet", 3)]))

    def test_unlike_records(self):
        one = Record(["ann", "bob"], [([0, HALF], "wet", 3)])
        for other in [
            Record(["ann", "cid"], [([0, HALF], "wet", 3)]), Record(["ann", "bob"], [([0, HALF], "wet", 4)]),
            Record(["ann", "bob"], [([0, HALF], "dry", 3)]), Record(["ann", "bob"], [([0, HALF], "open", 3)]),
            Record(["ann", "bob"], [([HALF, 0], "wet", 3)]), Record(["ann", "bob"], [([0, THIRD], "wet", 3)]),
            Record(["ann"], [([0], "wet", 3)]), Record(["ann", "bob"], [([0, HALF], "wet", 3), ([0, HALF], "dry", 1)]),
            Record(["ann", "bob"], [([0, HALF], "wet", 3), ([1, HALF], "wet", 3)]),
        ]:
            self.assertFalse(one == other)
            self.assertTrue(one != other)
            self.assertFalse(other == one)

    def test_values_of_other_kinds(self):
        record = crossed()
        for value in odd_values() + [str(record), record.cells(), [record], (record,)]:
            self.assertIs(record == value, False)
            self.assertIs(record != value, True)
            self.assertIs(value == record, False)


if __name__ == "__main__":
    unittest.main()
