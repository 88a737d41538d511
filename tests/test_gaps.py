"""Points 62 to 66: how far from the truth people must have been, in which groups they come true, and what to change."""

import unittest
from fractions import Fraction
from itertools import combinations
from random import Random

from saidchances.errors import OpenDays
from saidchances.gaps import changed, gap, groups, is_gap
from saidchances.ratios import Ratio
from saidchances.records import Record
from saidchances.righted import reliable
from saidchances.twos import barring
from saidchances.unseen import outcomes
from tests.days import (
    NAMES, all_whole, cells_of, corners_of, dues_by, ends_between, fraction, fractions, gain_by, given, hidden_lines,
    random_lines, random_weather, ratio, record_by, sums_by,
)
from tests.test_unseen import crossed, is_number, is_true, lengths, mixed
from tests.values import deep, odd_values

HALF, THIRD, QUARTER, THREE = Ratio(1, 2), Ratio(1, 3), Ratio(1, 4), Ratio(3, 4)


def days_by(record):
    """On how many days each chance was said, by the place of the person and the chance."""
    found = {}
    for cell, *days in cells_of(record):
        for place, chance in enumerate(cell):
            found[(place, chance)] = found.get((place, chance), 0) + sum(days)
    return found


def is_within(record, numbers):
    rows = cells_of(record)
    return len(numbers) == len(rows) and all(
        wet <= number <= wet + untold for (_, wet, _, untold), number in zip(rows, numbers)
    )


def left_gap(record, numbers):
    """The least gap that outcomes leave."""
    sums, dues, days = sums_by(record, numbers), dues_by(record), days_by(record)
    return max(abs(sums[key] - dues[key]) / Fraction(days[key]) for key in dues)


def staked(record, stakes):
    """What is at stake."""
    keys = sorted(days_by(record))
    return sum(abs(stake) * days_by(record)[key] for key, stake in zip(keys, [stake for row in stakes for stake in row]))


def is_right(record, number, numbers, stakes):
    """Point 64 word for word."""
    if not is_within(record, numbers) or left_gap(record, numbers) > number:
        return False
    return staked(record, stakes) <= 1 and gain_by(record, stakes) == number


class Gaps(unittest.TestCase):
    def test_outcomes_that_leave_it_and_stakes_that_gain_it(self):
        seen = set()
        for record in random_weather(160, 400, cells=6):
            answer = gap(record)
            self.check_form(record, answer)
            number, numbers, stakes = fractions(answer)
            self.assertTrue(is_right(record, number, numbers, stakes))
            self.assertEqual(left_gap(record, numbers), number)
            self.assertGreaterEqual(number, 0)
            self.assertIs(is_gap(record, answer), True)
            self.assertIs(number == 0, outcomes(record) is not None)
            seen.add((len(record.people()), record.closed(), number == 0))
        self.assertEqual(len(seen), 12)

    def check_form(self, record, answer):
        self.assertEqual([type(part) for part in (answer, *answer)], [tuple, Ratio, list, list])
        self.assertEqual({type(number) for number in answer[1]}, {Ratio})
        self.assertEqual([type(row) for row in answer[2]], [list] * len(record.people()))
        self.assertEqual([len(row) for row in answer[2]], lengths(record))
        self.assertEqual({type(number) for row in answer[2] for number in row}, {Ratio})

    def test_no_stakes_gain_more_than_outcomes_leave(self):
        random = Random(161)
        for record in random_weather(162, 150):
            number = fraction(gap(record)[0])
            numbers = [wet + untold * Fraction(random.randint(0, 3), 3) for _, wet, _, untold in cells_of(record)]
            self.assertGreaterEqual(left_gap(record, numbers), number)
            stakes = [[Fraction(random.randint(-2, 2)) for _ in range(many)] for many in lengths(record)]
            many = staked(record, stakes)
            if many:
                stakes = [[stake / many for stake in row] for row in stakes]
            self.assertLessEqual(gain_by(record, stakes), number)

    def test_by_hand(self):
        self.assertTrue(gap(crossed())[0] == QUARTER)
        self.assertTrue(gap(mixed())[0] == 0)
        self.assertTrue(gap(Record(["ann"], [([QUARTER], "wet", 3), ([QUARTER], "dry", 1)]))[0] == HALF)
        self.assertTrue(gap(Record(["ann"], [([1], "dry", 3), ([0], "wet", 10 ** 12)]))[0] == 1)
        self.assertTrue(gap(Record(["ann"], [([HALF], "wet", 2), ([HALF], "open", 1)]))[0] == Ratio(1, 6))
        # Two people who said other chances on the same days are wrong by half the difference.
        self.assertTrue(gap(Record(NAMES[:2], [([THIRD, HALF], "open", 7)]))[0] == Ratio(1, 12))
        self.assertTrue(gap(Record(NAMES, [([0, HALF, 1], "open", 7)]))[0] == HALF)

    def test_judged_gaps(self):
        random = Random(163)
        seen = set()
        for record in random_weather(164, 200):
            number, numbers, stakes = fractions(gap(record))
            for _ in range(5):
                near = self.near(random, number, numbers, stakes)
                value = (
                    given(random, near[0]), [given(random, item) for item in near[1]],
                    tuple([given(random, item) for item in row] for row in near[2]),
                )
                expected = is_right(record, *near)
                self.assertIs(is_gap(record, value), expected)
                seen.add((expected, near == (number, numbers, stakes)))
        self.assertEqual(seen, {(True, True), (True, False), (False, False)})

    def near(self, random, number, numbers, stakes):
        numbers, stakes = list(numbers), [list(row) for row in stakes]
        for _ in range(random.randint(0, 1)):
            kind, small = random.randrange(4), random.choice([1, -1, Fraction(1, 7), Fraction(-1, 7), Fraction(1, 10 ** 12)])
            row = random.choice(stakes)
            if kind == 0:
                number += small
            elif kind == 1:
                numbers[random.randrange(len(numbers))] += small
            elif kind == 2:
                row[random.randrange(len(row))] += small
            else:
                stakes = [[stake * abs(small) for stake in row] for row in stakes]
        return number, numbers, stakes

    def test_each_part_spoilt(self):
        record = Record(["ann"], [([QUARTER], "wet", 2), ([QUARTER], "open", 2), ([1], "open", 2)])
        good = (QUARTER, [2, 2], [[QUARTER, 0]])
        self.assertIs(is_gap(record, good), True)
        self.assertIs(is_gap(record, (QUARTER, (2, Ratio(3, 2)), ((QUARTER, Ratio(0)),))), True)
        for value in [
            # Outcomes that leave more, and such that are none.
            (QUARTER, [Ratio(21, 10), 2], good[2]), (QUARTER, [2, 1], good[2]), (QUARTER, [1, 2], good[2]), (QUARTER, [2, 3], good[2]),
            (QUARTER, [2], good[2]), (QUARTER, [2, 2, 0], good[2]), (QUARTER, [2, True], good[2]), (QUARTER, None, good[2]),
            # Stakes that gain less, more at stake, or none.
            (QUARTER, good[1], [[0, 0]]), (QUARTER, good[1], [[Ratio(1, 5), 0]]), (HALF, good[1], [[HALF, 0]]),
            (QUARTER, good[1], [[QUARTER]]), (QUARTER, good[1], [[QUARTER, 0], []]), (QUARTER, good[1], [QUARTER, 0]),
            (QUARTER, good[1], [[QUARTER, False]]), (QUARTER, good[1], None), (QUARTER, good[1], {0: [QUARTER, 0]}),
            (QUARTER, good[1], [[QUARTER, HALF]]), (QUARTER, good[1], [[-QUARTER, 0]]),
            # Numbers above it, below it, or none.
            (HALF, good[1], good[2]), (Ratio(1, 5), good[1], good[2]), (0, good[1], good[2]), (-QUARTER, good[1], good[2]),
            ("1/4", good[1], good[2]), (None, good[1], good[2]), ({}, good[1], good[2]), ([QUARTER], good[1], good[2]),
            # Parts in another order, too few, too many, and another kind.
            list(good), good[:2], (*good, 0), (good[1], QUARTER, good[2]), (QUARTER, good[2], good[1]), {}, None, True, "gap",
            (QUARTER, [2, deep(900)], good[2]), (QUARTER, good[1], [[deep(900), 0]]),
        ] + odd_values():
            self.assertIs(is_gap(record, value), False)

    def test_at_stake_beyond_1(self):
        # Of these stakes 4/3 is at stake; the gain is a number that some outcomes leave.
        record = Record(["ann"], [([QUARTER], "wet", 2), ([QUARTER], "open", 2), ([1], "open", 2)])
        value = (THIRD, [2, 2], [[THIRD, 0]])
        self.assertEqual(gain_by(record, fractions(value[2])), Fraction(1, 3))
        self.assertIs(is_gap(record, value), False)

    def test_parts_of_any_kind(self):
        record = Record(["ann"], [([1], "wet", 2)])
        self.assertIs(is_gap(record, (0, [2], [[0]])), True)
        for value in odd_values():
            zero = is_number(value) and value == 0
            self.assertIs(is_gap(record, (value, [2], [[0]])), zero)
            self.assertIs(is_gap(record, (0, [value], [[0]])), is_number(value) and value == 2)
            # Any stakes on the chance 1 gain 0 on wet days; of two days at most 1 is at stake.
            self.assertIs(is_gap(record, (0, [2], [[value]])), is_number(value) and abs(fraction(value)) <= Fraction(1, 2))
            row = isinstance(value, (list, tuple)) and len(value) == 1 and is_number(value[0])
            self.assertIs(is_gap(record, (0, [2], [value])), row and abs(fraction(value[0])) <= Fraction(1, 2))


class Groups(unittest.TestCase):
    def test_greatest_and_least(self):
        seen = set()
        for record in random_weather(165, 200, cells=4):
            people = record.people()
            all_groups = [list(group) for many in range(1, len(people) + 1) for group in combinations(people, many)]
            true = [group for group in all_groups if outcomes(record.of(group)) is not None]
            false = [group for group in all_groups if group not in true]
            expected = (
                sorted(one for one in true if not any(set(one) < set(other) for other in true)),
                sorted(one for one in false if not any(set(other) < set(one) for other in false)),
            )
            answer = groups(record)
            self.assertEqual(answer, expected)
            self.assertEqual([type(answer), *[type(part) for part in answer]], [tuple, list, list])
            self.assertEqual({type(group) for part in answer for group in part}, {list})
            seen.add((len(people), len(answer[0]), len(answer[1])))
        self.assertGreater(len(seen), 9)

    def test_by_the_bars_and_by_corners(self):
        for record in random_weather(166, 60, people=(2, 3), cells=3):
            true, _ = groups(record)
            for one, other in combinations(record.people(), 2):
                together = any(one in group and other in group for group in true)
                self.assertIs(together, barring(record.of([one, other])) is None)
            self.assertIs(record.people() in true, corners_of(record) != [])

    def test_one_person(self):
        self.assertEqual(groups(Record(["ann"], [([HALF], "open", 2)])), ([["ann"]], []))
        self.assertEqual(groups(Record(["ann"], [([HALF], "wet", 2)])), ([], [["ann"]]))

    def test_two_people(self):
        self.assertEqual(groups(crossed()), ([["ann"], ["bob"]], [["ann", "bob"]]))
        self.assertEqual(groups(mixed()), ([["ann", "bob"]], []))
        self.assertEqual(groups(Record(["bob", "ann"], [([0, 1], "wet", 2)])), ([["ann"]], [["bob"]]))
        self.assertEqual(groups(Record(["bob", "ann"], [([0, HALF], "wet", 2)])), ([], [["ann"], ["bob"]]))

    def test_three_people(self):
        record = Record(["cid", "bob", "ann"], [([1, 0, 1], "open", 1)])
        self.assertEqual(groups(record), ([["ann", "cid"], ["bob"]], [["ann", "bob"], ["bob", "cid"]]))
        record = Record(["cid", "bob", "ann"], [([1, HALF, 0], "open", 2)])
        self.assertEqual(groups(record), ([["ann"], ["bob"], ["cid"]], [["ann", "bob"], ["ann", "cid"], ["bob", "cid"]]))
        record = Record(["cid", "bob", "ann"], [([1, 1, 1], "open", 2)])
        self.assertEqual(groups(record), ([["ann", "bob", "cid"]], []))
        record = Record(["cid", "bob", "ann"], [([0, 0, 1], "dry", 2)])
        self.assertEqual(groups(record), ([["bob", "cid"]], [["ann"]]))
        record = Record(["cid", "bob", "ann"], [([1, 1, 1], "dry", 2)])
        self.assertEqual(groups(record), ([], [["ann"], ["bob"], ["cid"]]))

    def test_any_two_but_not_all_three(self):
        # With wet days w, x, y, z: w + x is 2 by ann, w + y is 2 by bob, x + y is 8 by cid.
        low = Ratio(1, 8)
        said = [[low, low, low], [low, HALF, HALF], [HALF, low, HALF], [HALF, HALF, low]]
        record = Record(NAMES, [(row, "open", 8) for row in said])
        self.assertEqual(groups(record), ([["ann", "bob"], ["ann", "cid"], ["bob", "cid"]], [NAMES]))
        self.assertEqual(corners_of(record), [])


def opened(record):
    """The record with all its days taken as open."""
    return Record(record.people(), [(cell, "open", sum(record.days(cell))) for cell in record.cells()])


def closed_records(seed, many, people=(1, 2, 3), cells=4, most=3):
    """Closed records: of drawn chances, and such with the weather of some days changed from what comes true."""
    random = Random(seed)
    for _ in range(many):
        names = NAMES[:random.choice(people)]
        if random.random() < 0.7:
            lines = hidden_lines(random, names, random.randint(1, cells), most, 1, marks=2)
            flipped = random.choice([0, 0.2, 0.5])
            other = {"wet": "dry", "dry": "wet"}
            lines = [(said, other[word] if random.random() < flipped else word, days) for said, word, days in lines]
        else:
            lines = random_lines(random, names, random.randint(1, cells), 2)
            lines = [(said, random.choice(["wet", "dry"]), days) for said, _, days in lines]
        yield record_by(random, lines)


class Changed(unittest.TestCase):
    def check(self, record, answer):
        self.assertEqual([type(answer), type(answer[0]), type(answer[1])], [tuple, Ratio, list])
        self.assertEqual({type(number) for number in answer[1]}, {Ratio})
        numbers = fractions(answer[1])
        self.assertTrue(is_true(opened(record), numbers))
        self.assertEqual(fraction(answer[0]), self.sum_of(record, numbers))

    def sum_of(self, record, numbers):
        return sum(abs(number - wet) for (_, wet, _, _), number in zip(cells_of(record), numbers))

    def test_against_all_whole_outcomes(self):
        seen = set()
        for record in closed_records(168, 150, people=(1, 2)):
            answer = changed(record)
            exist = outcomes(opened(record)) is not None
            self.assertIs(answer is not None, exist)
            if not exist:
                continue
            self.check(record, answer)
            if all(due.denominator == 1 for due in dues_by(record).values()):
                ways = all_whole(opened(record))
                self.assertEqual(fraction(answer[0]), min(self.sum_of(record, way) for way in ways))
                seen.add(int(fraction(answer[0])))
        self.assertGreater(len(seen), 3)

    def test_where_weather_can_be_changed_in_many_ways(self):
        random = Random(173)
        seen = set()
        for _ in range(60):
            names = NAMES[:2]
            lines = hidden_lines(random, names, 7, 2, 1, marks=random.choice([2, 3]))
            other = {"wet": "dry", "dry": "wet"}
            lines = [(said, other[word] if random.random() < 0.3 else word, days) for said, word, days in lines]
            record = record_by(random, lines)
            ways = all_whole(opened(record))
            answer = changed(record)
            if ways:
                self.check(record, answer)
                numbers = [self.sum_of(record, way) for way in ways]
                self.assertEqual(fraction(answer[0]), min(numbers))
                seen.add(min(numbers) < max(numbers))
        self.assertEqual(seen, {True, False})

    def test_against_all_ends(self):
        seen = set()
        for record in closed_records(169, 60, cells=5, most=2):
            answer = changed(record)
            marks = [(0, wet, wet + dry) for _, wet, dry, _ in cells_of(record)]
            ways = ends_between(opened(record), marks)
            self.assertIs(answer is None, ways == [])
            if ways:
                self.check(record, answer)
                self.assertEqual(fraction(answer[0]), min(self.sum_of(record, way) for way in ways))
            seen.add((len(record.people()), answer is None))
        self.assertGreater(len(seen), 4)

    def test_reliable_people(self):
        seen = set()
        for record in closed_records(170, 120):
            answer = changed(record)
            true = all(reliable(record, name) for name in record.people())
            self.assertIs(answer is not None and answer[0] == 0, true)
            if true:
                self.assertTrue(answer[1] == [record.days(cell)[0] for cell in record.cells()])
            seen.add(true)
        self.assertEqual(seen, {True, False})

    def test_nobody_can_help(self):
        self.assertIsNone(changed(Record(NAMES[:2], [([HALF, 0], "dry", 2)])))
        self.assertIsNone(changed(Record(NAMES[:2], [([QUARTER, THREE], "wet", 1), ([THREE, QUARTER], "dry", 3)])))

    def test_by_hand(self):
        record = Record(["ann"], [([QUARTER], "wet", 3), ([QUARTER], "dry", 1), ([HALF], "wet", 1), ([HALF], "dry", 1)])
        self.assertTrue(changed(record) == (2, [1, 1]))
        record = Record(["ann"], [([HALF], "dry", 3)])
        self.assertTrue(changed(record) == (Ratio(3, 2), [Ratio(3, 2)]))
        # One wet day more in the first cell, or one more in the two next ones, and one less in the last one.
        lines = [
            ([QUARTER, QUARTER], "dry", 4), ([QUARTER, HALF], "wet", 1), ([QUARTER, HALF], "dry", 3), ([HALF, QUARTER], "wet", 1),
            ([HALF, QUARTER], "dry", 3), ([HALF, HALF], "wet", 3), ([HALF, HALF], "dry", 1),
        ]
        self.assertTrue(changed(Record(NAMES[:2], lines)) == (1, [1, 1, 1, 3]))
        record = Record(["ann"], [([1], "dry", 10 ** 12), ([0], "wet", 7)])
        self.assertTrue(changed(record) == (10 ** 12 + 7, [0, 10 ** 12]))

    def test_open_days(self):
        for lines in [[([HALF], "open", 1)], [([HALF], "wet", 1), ([0], "open", 1)]]:
            with self.assertRaises(OpenDays):
                changed(Record(["ann"], lines))


class Callers(unittest.TestCase):
    def test_by_name(self):
        record = Record(["ann"], [([HALF], "dry", 2)])
        self.assertTrue(gap(record=record)[0] == HALF)
        self.assertIs(is_gap(value=None, record=record), False)
        self.assertEqual(groups(record=record), ([], [["ann"]]))
        self.assertTrue(changed(record=record)[0] == 1)

    def test_lists_that_the_caller_changes(self):
        record = crossed()
        kept, kept_groups = gap(record), groups(record)
        found = gap(record)
        found[1].clear()
        found[2][0].clear()
        found[2].clear()
        told = groups(record)
        told[0][0].append("eve")
        told[1].clear()
        self.assertTrue(gap(record) == kept)
        self.assertEqual(groups(record), kept_groups)
        closed = Record(["ann"], [([HALF], "dry", 2)])
        changed(closed)[1].clear()
        self.assertTrue(changed(closed)[1] == [1])

    def test_what_is_passed_stays(self):
        record = crossed()
        text = str(record)
        value = gap(record)
        kept = gap(record)
        is_gap(record, value)
        self.assertTrue(value == kept)
        groups(record)
        self.assertEqual(str(record), text)

    def test_equal_records(self):
        random = Random(171)
        for _ in range(60):
            lines = random.choice([random_lines, hidden_lines])(random, NAMES[:random.randint(1, 3)], 5)
            one, other = record_by(random, lines), record_by(random, lines)
            self.assertTrue(gap(one) == gap(other))
            self.assertEqual(groups(one), groups(other))
            if one.closed():
                self.assertTrue(changed(one) == changed(other))

    def test_great_numbers(self):
        random = Random(172)
        for count in [1, 2, 3]:
            said = [[Ratio(random.randint(0, 10 ** 12 - 2), 10 ** 12 - random.randint(1, 99)) for _ in range(16)] for _ in range(count)]
            cells = [[random.randrange(3 if at < 8 else 16) for _ in range(count)] for at in range(16)]
            lines = [
                ([ratio(fraction(said[place][mark])) for place, mark in enumerate(cell)], word, random.randint(1, 10 ** 12 - 1))
                for cell in cells for word in ["wet", "dry"]
            ]
            record = Record(NAMES[:count], lines)
            number, numbers, stakes = fractions(gap(record))
            self.assertTrue(is_right(record, number, numbers, stakes))
            answer = changed(record)
            self.assertTrue(answer is None or is_true(opened(record), fractions(answer[1])))
            self.assertTrue(is_right(opened(record), *fractions(gap(opened(record)))))


if __name__ == "__main__":
    unittest.main()
