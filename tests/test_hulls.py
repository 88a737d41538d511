"""Points 43 to 46: hits and false alarms, the hull above them, and the areas below."""

import unittest
from fractions import Fraction
from random import Random

from saidchances.actors import loss
from saidchances.errors import BadChance, BadNumber
from saidchances.hulls import alarm_area, alarms, hull, hull_area, hull_height, least_by_hull, ranked
from saidchances.ratios import Ratio
from saidchances.records import Record
from saidchances.rising import blocks, risen
from tests.days import acted, as_days, bars_near, counted, fraction, fractions, given, lost_on, random_records, ratio
from tests.test_righted import cid
from tests.test_rising import one_person
from tests.values import odd_values

HALF, THIRD, QUARTER, THREE = Ratio(1, 2), Ratio(1, 3), Ratio(1, 4), Ratio(3, 4)


def expected_alarms(days, name):
    """Day by day: the false alarms and the hits of somebody who acts from a chance on."""
    found = [(0, 0)]
    for bar in sorted({said[name] for said, _ in days}, reverse=True):
        acting = [wet for said, wet in days if acted(said[name], bar, True)]
        found.append((acting.count(False), acting.count(True)))
    return found


def on_or_below(point, before, behind):
    """Whether a point is on or below the straight line between a point before and one behind it."""
    if before[0] == behind[0]:
        return point[1] <= behind[1]
    part = Fraction(point[0] - before[0], behind[0] - before[0])
    return point[1] <= before[1] + part * (behind[1] - before[1])


def expected_hull(points):
    return [
        point for at, point in enumerate(points)
        if not any(on_or_below(point, before, behind) for before in points[:at] for behind in points[at + 1:])
    ]


def expected_height(points, false):
    """The most hits by mixtures of two points."""
    found = [Fraction(hits) for told, hits in points if told == false]
    for before in points:
        for behind in points:
            if before[0] < false < behind[0]:
                part = Fraction(false - before[0], behind[0] - before[0])
                found.append(before[1] + part * (behind[1] - before[1]))
    return max(found)


def pairs(days, name):
    """How the chances compare, for each pair of a wet and a dry day."""
    wet_ones = [said[name] for said, wet in days if wet]
    dry_ones = [said[name] for said, wet in days if not wet]
    return [(one > other) - (one < other) for one in wet_ones for other in dry_ones]


class Alarms(unittest.TestCase):
    def test_day_by_day(self):
        for record, days in random_records(80, 120):
            for name in record.people():
                found = alarms(record, name)
                self.assertEqual(found, expected_alarms(days, name))
                self.assertEqual({type(row) for row in found}, {tuple})
                self.assertEqual({type(number) for row in found for number in row}, {int})
                self.assertIs(type(found), list)
                self.assertEqual(found[-1], (sum(not wet for _, wet in days), sum(wet for _, wet in days)))

    def test_records_of_one_weather(self):
        self.assertEqual(alarms(one_person((0, 2, 0), (HALF, 1, 0)), "cid"), [(0, 0), (0, 1), (0, 3)])
        self.assertEqual(alarms(one_person((0, 0, 2), (HALF, 0, 1)), "cid"), [(0, 0), (1, 0), (3, 0)])
        self.assertEqual(alarms(one_person((HALF, 2, 5)), "cid"), [(0, 0), (5, 2)])


class Hulls(unittest.TestCase):
    def test_corners_by_all_pairs_of_points(self):
        lengths = set()
        for record, days in random_records(81, 200, cells=10):
            for name in record.people():
                points = expected_alarms(days, name)
                found = hull(record, name)
                self.assertEqual(found, expected_hull(points))
                self.assertEqual([found[0], found[-1]], [points[0], points[-1]])
                self.assertEqual({type(row) for row in found}, {tuple})
                self.assertEqual({type(number) for row in found for number in row}, {int})
                lengths.add((len(found), len(points)))
        self.assertGreater(len(lengths), 10)

    def test_days_of_the_blocks(self):
        for record, days in random_records(82, 100, cells=10):
            for name in record.people():
                rows = {chance: (dry, wet) for chance, wet, dry in counted(days, name)}
                expected = []
                for chances, _ in reversed(blocks(record, name)):
                    told = [rows[chance] for chance in fractions(chances)]
                    expected.append((sum(dry for dry, _ in told), sum(wet for _, wet in told)))
                found = hull(record, name)
                steps = [(two[0] - one[0], two[1] - one[1]) for one, two in zip(found, found[1:])]
                self.assertEqual(steps, expected)

    def test_points_with_as_many_false_alarms(self):
        self.assertEqual(hull(one_person((0, 1, 0), (HALF, 2, 0), (1, 3, 0)), "cid"), [(0, 0), (0, 6)])
        self.assertEqual(hull(one_person((0, 1, 1), (HALF, 2, 0), (1, 3, 0)), "cid"), [(0, 0), (0, 5), (1, 6)])
        self.assertEqual(hull(one_person((0, 5, 0), (1, 1, 2)), "cid"), [(0, 0), (2, 6)])
        self.assertEqual(hull(one_person((0, 5, 0), (HALF, 0, 2), (1, 1, 0)), "cid"), [(0, 0), (0, 1), (2, 6)])

    def test_points_with_as_many_hits(self):
        self.assertEqual(hull(one_person((0, 0, 1), (HALF, 0, 2), (1, 0, 3)), "cid"), [(0, 0), (6, 0)])
        self.assertEqual(hull(one_person((0, 0, 1), (HALF, 0, 2), (1, 3, 3)), "cid"), [(0, 0), (3, 3), (6, 3)])

    def test_points_on_a_line(self):
        self.assertEqual(hull(one_person((0, 1, 2), (HALF, 2, 4), (1, 3, 6)), "cid"), [(0, 0), (12, 6)])
        self.assertEqual(hull(one_person((0, 1, 2), (HALF, 2, 4), (1, 3, 5)), "cid"), [(0, 0), (5, 3), (11, 6)])


class Heights(unittest.TestCase):
    def test_at_corners_and_between(self):
        random = Random(83)
        for record, days in random_records(84, 100, cells=10):
            for name in record.people():
                points = expected_alarms(days, name)
                dry = points[-1][0]
                for false in [Fraction(part * dry, 12) for part in range(13)] + [row[0] for row in points]:
                    height = hull_height(record, name, given(random, false))
                    self.assertIs(type(height), Ratio)
                    self.assertEqual(fraction(height), expected_height(points, false))

    def test_at_the_ends(self):
        self.assertTrue(hull_height(one_person((0, 1, 0), (HALF, 2, 0)), "cid", 0) == 3)
        self.assertTrue(hull_height(one_person((0, 0, 1), (HALF, 0, 4)), "cid", Ratio(5)) == 0)
        self.assertTrue(hull_height(one_person((0, 0, 1), (HALF, 0, 4)), "cid", HALF) == 0)
        record = cid()
        for false, expected in [(0, 2), (Ratio(3, 2), Ratio(5, 2)), (3, 3), (Ratio(0), 2), (HALF, Ratio(13, 6))]:
            self.assertTrue(hull_height(record, "cid", false) == expected)

    def test_no_such_number(self):
        record = cid()
        for value in odd_values() + [4, -1, Ratio(-1, 10 ** 12), Ratio(3 * 10 ** 12 + 1, 10 ** 12), "0", b"0", 3.0]:
            good = isinstance(value, (int, Ratio)) and not isinstance(value, bool) and 0 <= fraction(value) <= 3
            if good:
                hull_height(record, "cid", value)
                continue
            with self.assertRaises(BadNumber) as caught:
                hull_height(record, "cid", value)
            self.assertIs(caught.exception.value, value)
        with self.assertRaises(BadNumber):
            hull_height(one_person((0, 3, 0)), "cid", Ratio(1, 10 ** 12))

    def test_least_losses(self):
        for record, days in random_records(85, 100):
            for name in record.people():
                best = as_days(risen(record, name))
                for bar in sorted(set(bars_near(days)) | set(bars_near(best))):
                    number = least_by_hull(record, name, ratio(bar))
                    self.assertIs(type(number), Ratio)
                    self.assertEqual(fraction(number), lost_on(best, name, bar, True))
                    self.assertEqual(fraction(number), lost_on(best, name, bar, False))

    def test_integer_bars(self):
        record = cid()
        for bar in [0, 1, Ratio(0), Ratio(1)]:
            self.assertTrue(least_by_hull(record, "cid", bar) == 0)
        self.assertTrue(least_by_hull(record, "cid", HALF) == loss(risen(record, "cid"), "cid", (HALF, True)))

    def test_no_chance(self):
        record = cid()
        for value in odd_values() + [2, -1, Ratio(-1, 10 ** 12), Ratio(10 ** 12 + 1, 10 ** 12), "0", 0.5]:
            if isinstance(value, (int, Ratio)) and not isinstance(value, bool) and 0 <= fraction(value) <= 1:
                least_by_hull(record, "cid", value)
                continue
            with self.assertRaises(BadChance) as caught:
                least_by_hull(record, "cid", value)
            self.assertIs(caught.exception.value, value)


class Ranks(unittest.TestCase):
    def test_pairs_of_days(self):
        for record, days in random_records(86, 150):
            for name in record.people():
                found = pairs(days, name)
                answer = ranked(record, name)
                self.assertEqual(answer, (found.count(1), found.count(0), found.count(-1)))
                self.assertEqual([type(answer), *[type(number) for number in answer]], [tuple, int, int, int])

    def test_areas_by_the_pairs(self):
        more = set()
        for record, days in random_records(87, 150):
            for name in record.people():
                found = pairs(days, name)
                area, above = alarm_area(record, name), hull_area(record, name)
                self.assertEqual([type(area), type(above)], [Ratio, Ratio])
                self.assertEqual(fraction(area), found.count(1) + Fraction(found.count(0), 2))
                best = pairs(as_days(risen(record, name)), name)
                self.assertEqual(fraction(above), best.count(1) + Fraction(best.count(0), 2))
                self.assertGreaterEqual(fraction(above), fraction(area))
                self.assertTrue(above == alarm_area(risen(record, name), name))
                more.add(fraction(above) > fraction(area))
        self.assertEqual(more, {True, False})

    def test_records_of_one_weather(self):
        for record in [one_person((0, 2, 0), (HALF, 1, 0)), one_person((0, 0, 2), (HALF, 0, 1))]:
            self.assertEqual(ranked(record, "cid"), (0, 0, 0))
            self.assertTrue(alarm_area(record, "cid") == 0)
            self.assertTrue(hull_area(record, "cid") == 0)

    def test_one_chance(self):
        record = one_person((HALF, 3, 5))
        self.assertEqual(ranked(record, "cid"), (0, 15, 0))
        self.assertTrue(alarm_area(record, "cid") == Ratio(15, 2))


class Callers(unittest.TestCase):
    def test_by_name(self):
        record = cid()
        self.assertEqual(len(alarms(name="cid", record=record)), 4)
        self.assertEqual(len(hull(name="cid", record=record)), 3)
        self.assertTrue(hull_height(false=1, name="cid", record=record) == Ratio(7, 3))
        self.assertTrue(least_by_hull(bar=HALF, name="cid", record=record) == HALF)
        self.assertEqual(ranked(name="cid", record=record), (6, 1, 2))
        self.assertTrue(alarm_area(name="cid", record=record) == Ratio(13, 2))
        self.assertTrue(hull_area(name="cid", record=record) == Ratio(15, 2))

    def test_lists_that_the_caller_changes(self):
        record = cid()
        for question in [alarms, hull]:
            kept = question(record, "cid")
            question(record, "cid").clear()
            self.assertEqual(question(record, "cid"), kept)

    def test_equal_records(self):
        lines = [([QUARTER, 0], "wet", 2), ([0, THREE], "dry", 3), ([1, 1], "wet", 1), ([1, 1], "dry", 1)]
        one = Record(["ann", "bob"], lines)
        other = Record(["bob", "ann"], [(said[::-1], word, days) for said, word, days in lines[::-1]])
        for name in ["ann", "bob"]:
            self.assertEqual(hull(one, name), hull(other, name))
            self.assertEqual(ranked(one, name), ranked(other, name))

    def test_great_numbers(self):
        rows = [(Ratio(at, 16), 10 ** 12 - 7 * at, 10 ** 12 - 16 + at * at) for at in range(1, 17)]
        record = one_person(*rows)
        greater, same, less = ranked(record, "cid")
        wet, dry = sum(row[1] for row in rows), sum(row[2] for row in rows)
        self.assertEqual(greater + same + less, wet * dry)
        self.assertTrue(hull_height(record, "cid", dry) == wet)


if __name__ == "__main__":
    unittest.main()
