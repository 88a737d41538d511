"""Points 52 to 56: two people whose weather is not all told."""

import unittest
from fractions import Fraction
from itertools import product
from random import Random

from saidchances.errors import NotTwo
from saidchances.ratios import Ratio
from saidchances.records import Record
from saidchances.twos import barring, is_barring, is_whole_outcomes, whole_outcomes, whole_ways
from tests.days import (
    all_whole, cells_of, dues_by, fractions, given, hidden_lines, random_lines, ratio, record_by, sums_by,
)
from tests.values import deep, odd_values

HALF, THIRD, QUARTER, THREE = Ratio(1, 2), Ratio(1, 3), Ratio(1, 4), Ratio(3, 4)
NAMES = ["ann", "bob"]


def random_twos(seed, many, cells=6, most=3):
    """Records of two people: hidden outcomes, drawn chances, closed and open ones."""
    random = Random(seed)
    for _ in range(many):
        if random.random() < 0.5:
            wets = random.choice([[0, 1], [0, Fraction(1, 2), 1]])
            keep = random.choice([0, 0.4, 1])
            yield record_by(random, hidden_lines(random, NAMES, random.randint(1, cells), most, keep, wets))
        else:
            yield record_by(random, random_lines(random, NAMES, random.randint(1, cells), most))


def bars(record, place, mine, theirs):
    """Point 53 word for word; the one stands at a place among the names."""
    dues = dues_by(record)
    due = sum(dues[(place, chance)] for chance in mine) - sum(dues[(1 - place, chance)] for chance in theirs)
    most = 0
    for cell, wet, _, untold in cells_of(record):
        if cell[place] in mine and cell[1 - place] not in theirs:
            most += wet + untold
        if cell[1 - place] in theirs and cell[place] not in mine:
            most -= wet
    return due > most


def subsets(values):
    for marks in product([False, True], repeat=len(values)):
        yield [value for value, mark in zip(values, marks) if mark]


def all_barring(record):
    """All tuples that bar a record, each with the place of the one."""
    said = [sorted({cell[place] for cell, *_ in cells_of(record)}) for place in (0, 1)]
    return [
        (place, mine, theirs) for place in (0, 1)
        for mine in subsets(said[place]) for theirs in subsets(said[1 - place]) if bars(record, place, mine, theirs)
    ]


def is_true(record, numbers):
    """Whether numbers are outcomes by which both come true."""
    inside = all(wet <= number <= wet + untold for (_, wet, _, untold), number in zip(cells_of(record), numbers))
    return inside and sums_by(record, numbers) == dues_by(record)


def line_of_cells(many, days):
    """Cells one behind the other, each with a chance in common with the next one."""
    one, other = 0, 0
    lines = []
    for at in range(many):
        lines.append(([Ratio(one + 1, 60), Ratio(other + 1, 60)], "open", days))
        one, other = (one + 1, other) if at % 2 else (one, other + 1)
    return lines


class Two(unittest.TestCase):
    def test_other_numbers_of_people(self):
        one = Record(["ann"], [([HALF], "open", 2)])
        three = Record(["ann", "bob", "cid"], [([HALF, HALF, 0], "open", 2), ([0, HALF, HALF], "wet", 1)])
        for record, count in [(one, 1), (three, 3)]:
            for function in [
                barring, whole_outcomes, whole_ways, lambda record: is_barring(record, None),
                lambda record: is_barring(record, ("ann", [], [])), lambda record: is_whole_outcomes(record, [1]),
                lambda record: is_whole_outcomes(record, {}),
            ]:
                with self.assertRaises(NotTwo) as caught:
                    function(record)
                self.assertEqual(caught.exception.count, count)
                self.assertIs(type(caught.exception.count), int)
        self.assertEqual(whole_ways(three.of(["ann", "cid"])), 0)


class Barring(unittest.TestCase):
    def test_against_all_pairs_of_lists(self):
        random = Random(120)
        seen = set()
        for record in random_twos(121, 250, cells=7):
            found = all_barring(record)
            told = barring(record)
            self.assertIs(told is None, found == [])
            if told is not None:
                self.check_told(record, told, found)
            for place, mine, theirs in random.sample(found, min(len(found), 5)):
                self.judge(random, record, place, mine, theirs, True)
            said = [sorted({cell[place] for cell, *_ in cells_of(record)}) for place in (0, 1)]
            for _ in range(5):
                place = random.randrange(2)
                mine = [chance for chance in said[place] if random.random() < 0.5]
                theirs = [chance for chance in said[1 - place] if random.random() < 0.5]
                self.judge(random, record, place, mine, theirs, bars(record, place, mine, theirs))
            seen.add((record.closed(), found == []))
        self.assertEqual(len(seen), 4)

    def check_told(self, record, told, found):
        self.assertEqual([type(told), len(told), type(told[0]), type(told[1]), type(told[2])], [tuple, 3, str, list, list])
        self.assertEqual({type(chance) for chance in told[1] + told[2]} - {Ratio}, set())
        name, mine, theirs = told[0], fractions(told[1]), fractions(told[2])
        self.assertIn((NAMES.index(name), mine, theirs), found)
        self.assertIs(is_barring(record, told), True)

    def judge(self, random, record, place, mine, theirs, expected):
        mine, theirs = [given(random, chance) for chance in mine], [given(random, chance) for chance in theirs]
        random.shuffle(mine)
        random.shuffle(theirs)
        kind = random.choice([list, tuple])
        self.assertIs(is_barring(record, (NAMES[place], kind(mine), list(theirs))), expected)

    def test_exactly_if_there_are_no_outcomes(self):
        for record in random_twos(122, 120, cells=5, most=2):
            whole = all(due.denominator == 1 for due in dues_by(record).values())
            if whole:
                self.assertIs(barring(record) is None, all_whole(record) != [])

    def test_dues_that_differ_in_all(self):
        record = Record(NAMES, [([HALF, QUARTER], "open", 4)])
        self.assertTrue(barring(record) == ("ann", [HALF], [QUARTER]) or fractions(barring(record)[2]) == [])
        self.assertIs(is_barring(record, ("ann", [HALF], [QUARTER])), True)
        self.assertIs(is_barring(record, ("bob", [QUARTER], [HALF])), False)
        record = Record(["bob", "ann"], [([HALF, QUARTER], "open", 4)])
        self.assertIs(is_barring(record, ("bob", [HALF], [QUARTER])), True)
        self.assertTrue(barring(record)[0] == "bob")

    def test_empty_lists(self):
        # More wet days than are due, and more due than there can be wet days.
        record = Record(NAMES, [([QUARTER, QUARTER], "wet", 2), ([QUARTER, QUARTER], "open", 2)])
        self.assertIs(is_barring(record, ("ann", [], [QUARTER])), True)
        self.assertIs(is_barring(record, ("bob", [], [QUARTER])), True)
        self.assertIs(is_barring(record, ("ann", [QUARTER], [])), False)
        self.assertIs(is_barring(record, ("ann", [], [])), False)
        record = Record(NAMES, [([THREE, THREE], "dry", 2), ([THREE, THREE], "open", 2)])
        self.assertIs(is_barring(record, ("ann", [THREE], [])), True)
        self.assertIs(is_barring(record, ("ann", [], [THREE])), False)
        self.assertIs(is_barring(record, ("bob", (THREE,), ())), True)
        self.assertIsNotNone(barring(record))

    def test_just_as_much_as_can_be(self):
        record = Record(NAMES, [([HALF, HALF], "dry", 2), ([HALF, HALF], "open", 2)])
        self.assertIsNone(barring(record))
        self.assertIs(is_barring(record, ("ann", [HALF], [])), False)
        record = Record(NAMES, [([HALF, HALF], "dry", 10 ** 12 + 1), ([HALF, HALF], "open", 10 ** 12 - 1)])
        self.assertIs(is_barring(record, ("ann", [HALF], [])), True)

    def test_values_near_barring_ones(self):
        crossed = Record(NAMES, [([QUARTER, THREE], "open", 4), ([THREE, QUARTER], "open", 4)])
        good = ("ann", [THREE], [QUARTER])
        self.assertIs(is_barring(crossed, good), True)
        self.assertIs(is_barring(crossed, ("bob", [THREE], [QUARTER])), True)
        for value in [
            ("ann", [QUARTER], [THREE]), ("ann", [THREE], []), ("ann", [], [QUARTER]), ("ann", [THREE, QUARTER], [QUARTER]),
            ("eve", [THREE], [QUARTER]), ("", [THREE], [QUARTER]), (None, [THREE], [QUARTER]), (["ann"], [THREE], [QUARTER]),
            ["ann", [THREE], [QUARTER]], ("ann", [THREE]), ("ann", [THREE], [QUARTER], []), ("ann", [THREE, THREE], [QUARTER]),
            ("ann", [THREE], [QUARTER, QUARTER]), ("ann", [THREE, HALF], [QUARTER]), ("ann", [THREE], [HALF]),
            ("ann", THREE, QUARTER), ("ann", {}, [QUARTER]), ("ann", [THREE], {}), ("ann", [THREE], None),
            ("ann", [THREE, None], [QUARTER]), ("ann", [[THREE]], [QUARTER]), ("ann", "3/4", [QUARTER]),
            ("ann", [THREE], "1"), ("ann", ["3/4"], [QUARTER]), ({}, [THREE], [QUARTER]), ("ann", [deep(900)], [QUARTER]),
            (0, [THREE], [QUARTER]), ("bob", [QUARTER], [THREE]), ("ann", {"3": 1}, []),
        ] + odd_values():
            self.assertIs(is_barring(crossed, value), False)
        for value in odd_values():
            self.assertIs(is_barring(crossed, (value, [THREE], [QUARTER])), value in ("ann", "bob"))
            self.assertIs(is_barring(crossed, ("ann", value, [QUARTER])), False)
            self.assertIs(is_barring(crossed, ("ann", [THREE], value)), False)
            self.assertIs(is_barring(crossed, ("ann", [THREE, value], [QUARTER])), False)

    def test_true_is_no_chance(self):
        record = Record(NAMES, [([1, 0], "open", 4)])
        self.assertIs(is_barring(record, ("ann", [1], [0])), True)
        self.assertIs(is_barring(record, ("ann", [Ratio(1)], [])), False)
        self.assertIs(is_barring(record, ("ann", [True], [0])), False)
        self.assertIs(is_barring(record, ("ann", [1], [False])), False)

    def test_people_in_either_order(self):
        record = Record(["bob", "ann"], [([QUARTER, THREE], "open", 4), ([THREE, HALF], "open", 4)])
        told = barring(record)
        place = NAMES.index(told[0])
        self.assertTrue(bars(record, place, fractions(told[1]), fractions(told[2])))

    def test_great_numbers(self):
        random = Random(123)
        lines = []
        for one in range(6):
            for other in range(6 if one < 2 else 1):
                said = [Ratio(one * 10 ** 11 + 7, 10 ** 12 - 1), Ratio(other * 10 ** 11 + 9, 10 ** 12 - 11)]
                lines.append((said, "open", random.randint(10 ** 11, 10 ** 12 - 1)))
        record = Record(NAMES, lines)
        self.assertIs(is_barring(record, barring(record)), True)


class Whole(unittest.TestCase):
    def test_against_all_ways_cell_by_cell(self):
        seen = set()
        for record in random_twos(124, 250, cells=5, most=2):
            ways = all_whole(record)
            found = whole_outcomes(record)
            self.assertIs(found is None, ways == [])
            if found is not None:
                self.assertEqual([type(found), *[type(number) for number in found]], [list, *[int] * len(found)])
                self.assertIn(found, ways)
                self.assertIs(is_whole_outcomes(record, found), True)
            number = whole_ways(record)
            self.assertEqual([type(number), number], [int, len(ways)])
            whole = all(due.denominator == 1 for due in dues_by(record).values())
            self.assertIs(found is not None, barring(record) is None and whole)
            seen.add((whole, barring(record) is None))
            for way in ways[:3]:
                self.assertIs(is_whole_outcomes(record, tuple(way)), True)
        self.assertEqual(len(seen), 4)

    def test_ways_where_many_days_are_told(self):
        random = Random(130)
        counts = set()
        for _ in range(150):
            record = record_by(random, hidden_lines(random, NAMES, 7, 4, 0.5))
            ways = all_whole(record)
            self.assertEqual(whole_ways(record), len(ways))
            counts.add(len(ways))
        self.assertGreater(len(counts), 1)

    def test_values_near_outcomes(self):
        random = Random(125)
        seen = set()
        for record in random_twos(126, 120, cells=5, most=3):
            start = whole_outcomes(record) or [wet for _, wet, _, _ in cells_of(record)]
            for _ in range(6):
                numbers = list(start)
                for _ in range(random.randint(0, 2)):
                    at, to = random.randrange(len(numbers)), random.randrange(len(numbers))
                    numbers[at] += 1
                    numbers[to] -= random.randint(0, 1)
                expected = is_true(record, numbers)
                self.assertIs(is_whole_outcomes(record, numbers), expected)
                seen.add(expected)
        self.assertEqual(seen, {True, False})

    def test_each_condition(self):
        lines = [([QUARTER, QUARTER], "open", 2), ([QUARTER, THREE], "open", 2), ([THREE, QUARTER], "open", 2), ([THREE, THREE], "open", 2)]
        mixed = Record(NAMES, lines)
        self.assertIs(is_whole_outcomes(mixed, [0, 1, 1, 2]), True)
        for value in [
            [1, 0, 0, 3], [-1, 2, 2, 1], [0, 1, 1], [0, 1, 1, 2, 0], [0, 1, 1, 1], [1, 1, 1, 2], [0, 0, 2, 2], [0, 2, 0, 2],
            [0, 1, 1, Ratio(2)], [Ratio(0), 1, 1, 2], [0, True, 1, 2], [False, 1, 1, 2], [HALF, HALF, HALF, Ratio(5, 2)],
            {0: 0, 1: 1, 2: 1, 3: 2}, "0112", [], None, [None] * 4, [[0], 1, 1, 2], [0, 1, 1, "2"], [0, 1, 1, {}],
            [0, 1, 1, deep(900)], [0, 1, 1, 10 ** 900],
        ] + odd_values():
            self.assertIs(is_whole_outcomes(mixed, value), False)
        for value in odd_values():
            self.assertIs(is_whole_outcomes(mixed, [0, 1, 1, value]), value is not True and value == 2 and type(value) is int)
            self.assertIs(is_whole_outcomes(mixed, [0, value, 1, 2]), type(value) is int and value == 1)

    def test_wet_and_dry_days_bound_outcomes(self):
        record = Record(NAMES, [
            ([HALF, HALF], "wet", 1), ([HALF, HALF], "open", 1), ([HALF, 0], "dry", 2), ([0, HALF], "dry", 1), ([0, HALF], "open", 1),
        ])
        self.assertIs(is_whole_outcomes(record, [0, 0, 2]), True)
        self.assertIs(is_whole_outcomes(record, [0, 1, 1]), False)
        self.assertEqual(whole_outcomes(record), [0, 0, 2])
        other = Record(NAMES, [([HALF, HALF], "wet", 1), ([HALF, HALF], "dry", 1), ([0, 1], "open", 2), ([1, 0], "open", 2)])
        self.assertEqual([whole_outcomes(other), whole_ways(other)], [None, 0])

    def test_dues_that_are_not_whole(self):
        record = Record(NAMES, [([HALF, HALF], "open", 3)])
        self.assertIsNone(barring(record))
        self.assertIsNone(whole_outcomes(record))
        self.assertEqual(whole_ways(record), 0)
        record = Record(NAMES, [([HALF, 1], "open", 1), ([HALF, 0], "open", 1), ([0, 0], "dry", 3), ([1, 1], "wet", 3)])
        self.assertEqual(whole_outcomes(record), [0, 0, 1, 3])
        # What is due to the one is whole, what is due to the other one is not.
        record = Record(NAMES, [([HALF, QUARTER], "open", 2), ([HALF, THREE], "open", 2)])
        self.assertIsNone(barring(record))
        self.assertEqual([whole_outcomes(record), whole_ways(record)], [None, 0])
        record = Record(["bob", "ann"], [([HALF, QUARTER], "open", 2), ([HALF, THREE], "open", 2)])
        self.assertEqual([whole_outcomes(record), whole_ways(record)], [None, 0])

    def test_closed_records(self):
        record = Record(NAMES, [([HALF, HALF], "wet", 1), ([HALF, HALF], "dry", 1), ([0, 0], "dry", 5)])
        self.assertEqual([barring(record), whole_outcomes(record), whole_ways(record)], [None, [0, 1], 1])
        record = Record(NAMES, [([HALF, HALF], "wet", 2), ([0, 0], "dry", 5)])
        self.assertIs(is_barring(record, barring(record)), True)
        self.assertEqual([whole_outcomes(record), whole_ways(record)], [None, 0])

    def test_ways_by_hand(self):
        low, high = Ratio(2, 5), Ratio(3, 5)
        square = Record(NAMES, [([one, other], "open", 20) for one in (low, high) for other in (low, high)])
        # The first cell tells the other ones: each of the next two has 16 less its wet days, the last one 8 more.
        self.assertEqual(whole_ways(square), 13)
        steep = Record(NAMES, [([one, other], "open", 20) for one in (QUARTER, THREE) for other in (QUARTER, THREE)])
        self.assertEqual(whole_ways(steep), 1)
        wide = Record(NAMES, [([one, other], "open", 20) for one in (0, 1) for other in (0, 1)])
        self.assertEqual(whole_ways(wide), 0)
        halves = Record(NAMES, [([HALF, HALF], "open", 120)])
        self.assertEqual(whole_ways(halves), 1)
        two = Record(NAMES, [([one, other], "open", 20) for one in (THIRD, Ratio(2, 3)) for other in (QUARTER, HALF, THREE)])
        # Rows of 20 and 40 wet days over columns of 10, 20 and 30: the first row is one of these.
        rows = [
            (one, two_, 20 - one - two_) for one in range(11) for two_ in range(21)
            if 0 <= 20 - one - two_ <= 20 and 10 - one <= 20 and 20 - two_ <= 20 and 0 <= 30 - (20 - one - two_) <= 20
        ]
        self.assertEqual(whole_ways(two), len(rows))

    def test_a_ring_of_six_cells(self):
        said = [THIRD, HALF, Ratio(2, 3)]
        lines = [([said[at], said[to]], "open", 20) for at, to in [(0, 0), (0, 1), (1, 1), (1, 2), (2, 2), (2, 0)]]
        record = Record(NAMES, lines)
        count = 0
        for first in range(21):
            numbers = self.ring(record, first)
            count += numbers is not None
        self.assertEqual(whole_ways(record), count)

    def ring(self, record, first):
        """The only outcomes of the ring with so many wet days in the first cell, if they are some."""
        dues, rows = dues_by(record), cells_of(record)
        numbers = {0: Fraction(first)}
        for _ in rows:
            for (place, chance), due in dues.items():
                inside = [at for at, (cell, *_) in enumerate(rows) if cell[place] == chance]
                unknown = [at for at in inside if at not in numbers]
                if len(unknown) == 1:
                    numbers[unknown[0]] = due - sum(numbers[at] for at in inside if at in numbers)
        told = [numbers[at] for at in range(len(rows))]
        good = is_true(record, told) and all(number.denominator == 1 for number in told)
        return told if good else None

    def test_many_cells_one_behind_the_other(self):
        for many in [16, 24]:
            record = Record(NAMES, line_of_cells(many, 60))
            told = barring(record)
            if told is None:
                self.assertTrue(is_true(record, whole_outcomes(record)))
            else:
                self.assertIs(is_barring(record, told), True)
                self.assertIsNone(whole_outcomes(record))
            whole_ways(record)

    def test_a_chain_that_comes_true(self):
        random = Random(127)
        for many in [16, 20]:
            marks = [((at + 1) // 2, at // 2) for at in range(many)]
            days = [(mark, random.random() < 0.5) for mark in marks for _ in range(12)]
            shares = [
                {key: Fraction(sum(wet for mark, wet in days if mark[place] == key), sum(mark[place] == key for mark, _ in days)) for key in range(many)
                 if any(mark[place] == key for mark, _ in days)} for place in (0, 1)
            ]
            record = Record(NAMES, [([ratio(shares[0][mark[0]]), ratio(shares[1][mark[1]])], "open", 1) for mark, _ in days])
            self.assertIsNone(barring(record))
            found = whole_outcomes(record)
            self.assertTrue(is_true(record, found))
            self.assertGreaterEqual(whole_ways(record), 1)

    def test_a_thousand_days(self):
        random = Random(128)
        for keep in [0, 0.3]:
            record = record_by(random, hidden_lines(random, NAMES, 16, 60, keep))
            self.assertIsNone(barring(record))
            self.assertTrue(is_true(record, whole_outcomes(record)))


class Callers(unittest.TestCase):
    def crossed(self):
        return Record(NAMES, [([QUARTER, THREE], "open", 4), ([THREE, QUARTER], "open", 4)])

    def test_by_name(self):
        record = self.crossed()
        self.assertIsNotNone(barring(record=record))
        self.assertIs(is_barring(value=None, record=record), False)
        self.assertIsNone(whole_outcomes(record=record))
        self.assertIs(is_whole_outcomes(value=[1, 3], record=record), False)
        self.assertEqual(whole_ways(record=record), 0)

    def test_lists_that_the_caller_changes(self):
        record = self.crossed()
        kept = barring(record)
        found = barring(record)
        found[1].clear()
        found[2].append(1)
        self.assertTrue(barring(record) == kept)
        mixed = Record(NAMES, [([HALF, HALF], "open", 4)])
        whole_outcomes(mixed).clear()
        self.assertEqual(whole_outcomes(mixed), [2])

    def test_what_is_passed_stays(self):
        record = self.crossed()
        text = str(record)
        value = ("ann", [THREE], [QUARTER])
        is_barring(record, value)
        self.assertTrue(value == ("ann", [THREE], [QUARTER]))
        barring(record), whole_outcomes(record), whole_ways(record)
        self.assertEqual(str(record), text)

    def test_equal_records(self):
        random = Random(129)
        for _ in range(60):
            lines = random.choice([random_lines, hidden_lines])(random, NAMES, 5)
            one, other = record_by(random, lines), record_by(random, lines)
            self.assertTrue(one == other)
            self.assertTrue(barring(one) == barring(other))
            self.assertEqual(whole_outcomes(one), whole_outcomes(other))


if __name__ == "__main__":
    unittest.main()
