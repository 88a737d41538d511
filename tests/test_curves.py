"""Points 26 to 29: curves, areas under them, the days that they tell, and the worst bars."""

import unittest
from fractions import Fraction
from itertools import combinations_with_replacement

from saidchances.actors import squares
from saidchances.curves import area, area_between, curve, loss_on, told_back, worst_bars
from saidchances.errors import BadActor, BadChance
from saidchances.ratios import Ratio
from saidchances.records import Record
from tests.days import bars_near, counted, fraction, fractions, lost_on, random_records, ratio
from tests.test_actors import NO_ACTORS
from tests.values import odd_values

HALF, QUARTER = Ratio(1, 2), Ratio(1, 4)


def bars_of(days, name):
    return sorted({Fraction(0), Fraction(1)} | {said[name] for said, _ in days})


def exact_area(days, name, low, high):
    """The area by the losses in the middle between bars: they change evenly between chances said."""
    ends = sorted({low, high} | {bar for bar in bars_of(days, name) if low < bar < high})
    return sum((lost_on(days, name, (one + other) / 2, True) * (other - one) for one, other in zip(ends, ends[1:])), Fraction(0))


def as_passed(points):
    """The same curve as a tuple, with integers for whole numbers."""
    return tuple(tuple(int(n) if n.denominator == 1 else ratio(n) for n in row) for row in fractions(points))


class Curves(unittest.TestCase):
    def test_losses_at_all_bars(self):
        for record, days in random_records(26, 60):
            for name in record.people():
                points = curve(record, name)
                expected = [(bar, lost_on(days, name, bar, True), lost_on(days, name, bar, False)) for bar in bars_of(days, name)]
                self.assertEqual(fractions(points), expected)
                self.assertIs(type(points), list)
                for row in points:
                    self.assertIs(type(row), tuple)
                    self.assertEqual([type(number) for number in row], [Ratio] * 3)

    def test_the_bars_0_and_1(self):
        for chances, bars in [
            ([HALF], ["0", "1/2", "1"]), ([0, HALF], ["0", "1/2", "1"]), ([HALF, 1], ["0", "1/2", "1"]), ([0], ["0", "1"]),
            ([Ratio(1)], ["0", "1"]), ([Ratio(0), 1], ["0", "1"]), ([Ratio(2, 3), QUARTER, HALF], ["0", "1/4", "1/2", "2/3", "1"]),
        ]:
            record = Record(["ann"], [([chance], "wet", 1) for chance in chances])
            self.assertEqual([str(bar) for bar, _, _ in curve(record, "ann")], bars)

    def test_jumps_at_chances_said(self):
        record = Record(["ann"], [([0], "wet", 3), ([QUARTER], "dry", 4), ([1], "dry", 5)])
        told = [[str(number) for number in row] for row in curve(record, "ann")]
        self.assertEqual(told, [["0", "0", "3"], ["1/4", "9/2", "7/2"], ["1", "5", "0"]])

    def test_losses_on_a_curve(self):
        for record, days in random_records(27, 40):
            for name in record.people():
                points = curve(record, name)
                for given in [points, tuple(points), as_passed(points)]:
                    for bar in bars_near(days):
                        for acts in [True, False]:
                            value = loss_on(given, (ratio(bar), acts))
                            self.assertIs(type(value), Ratio)
                            self.assertEqual(fraction(value), lost_on(days, name, bar, acts))

    def test_whole_bars_of_actors(self):
        record = Record(["ann"], [([0], "wet", 3), ([1], "dry", 5)])
        points = curve(record, "ann")
        for bar, acts, lost in [(0, True, 0), (0, False, 3), (1, True, 5), (1, False, 0)]:
            self.assertTrue(loss_on(points, (bar, acts)) == lost)
            self.assertTrue(loss_on(as_passed(points), (Ratio(bar), acts)) == lost)
            self.assertIs(type(loss_on(as_passed(points), (Ratio(bar), acts))), Ratio)

    def test_no_actors(self):
        points = curve(Record(["ann"], [([HALF], "wet", 1)]), "ann")
        for value in NO_ACTORS + odd_values():
            with self.assertRaises(BadActor) as caught:
                loss_on(points, value)
            self.assertIs(caught.exception.actor, value)

    def test_lists_that_the_caller_changes(self):
        record = Record(["ann"], [([HALF], "wet", 1), ([QUARTER], "dry", 2)])
        for question in [curve, lambda *asked: worst_bars(*asked)[1], lambda *asked: told_back(curve(*asked), 1, 2)]:
            first = question(record, "ann")
            kept = list(first)
            first.reverse()
            first.append(None)
            self.assertTrue(question(record, "ann") == kept)
            self.assertIsNot(question(record, "ann"), question(record, "ann"))

    def test_what_is_passed_stays(self):
        record = Record(["ann"], [([HALF], "wet", 1), ([QUARTER], "dry", 2)])
        points = curve(record, "ann")
        kept, text = list(points), str(record)
        loss_on(points, (HALF, True))
        told_back(points, 1, 2)
        self.assertTrue(points == kept)
        self.assertEqual(str(record), text)

    def test_by_name(self):
        record = Record(["ann"], [([HALF], "wet", 1)])
        points = curve(name="ann", record=record)
        self.assertTrue(loss_on(actor=(HALF, False), points=points) == HALF)
        self.assertTrue(area(name="ann", record=record) == area_between(high=1, low=0, name="ann", record=record))
        self.assertTrue(told_back(dry=0, wet=1, points=points) == [(HALF, 1, 0)])
        self.assertTrue(worst_bars(name="ann", record=record)[0] == HALF)


class Areas(unittest.TestCase):
    def test_squares_are_twice_the_area(self):
        for record, days in random_records(28, 60):
            for name in record.people():
                self.assertIs(type(area(record, name)), Ratio)
                self.assertEqual(fraction(area(record, name)), exact_area(days, name, Fraction(0), Fraction(1)))
                self.assertTrue(area(record, name) * 2 == squares(record, name))

    def test_between_two_bars(self):
        for record, days in random_records(29, 15):
            for name in record.people():
                for low, high in combinations_with_replacement(bars_near(days), 2):
                    value = area_between(record, name, ratio(low), ratio(high))
                    self.assertIs(type(value), Ratio)
                    self.assertEqual(fraction(value), exact_area(days, name, low, high))

    def test_chosen_bars(self):
        record = Record(["ann"], [([HALF], "wet", 2), ([HALF], "dry", 4)])
        for low, high, expected in [
            (0, 1, Ratio(3, 4)), (0, 0, 0), (1, 1, 0), (HALF, HALF, 0), (QUARTER, QUARTER, 0), (0, QUARTER, Ratio(1, 8)),
            (QUARTER, HALF, Ratio(3, 8)), (HALF, 1, QUARTER), (QUARTER, Ratio(3, 4), Ratio(9, 16)),
            (Ratio(0), Ratio(1), Ratio(3, 4)), (Ratio(1, 3), Ratio(2, 5), Ratio(22, 225)),
        ]:
            self.assertTrue(area_between(record, "ann", low, high) == expected)

    def test_no_chances(self):
        record = Record(["ann"], [([HALF], "wet", 2)])
        wrong = [-1, 2, Ratio(-1, 10 ** 12), Ratio(10 ** 12 + 1, 10 ** 12)]
        for value in odd_values() + wrong:
            if isinstance(value, (int, Ratio)) and not isinstance(value, bool) and 0 <= fraction(value) <= 1:
                self.assertTrue(area_between(record, "ann", value, value) == 0)
                continue
            for low, high in [(value, 1), (value, value), (value, 0), (value, None), (0, value), (1, value), (HALF, value)]:
                with self.assertRaises(BadChance) as caught:
                    area_between(record, "ann", low, high)
                self.assertIs(caught.exception.value, value)

    def test_the_first_wrong_bar_counts(self):
        record = Record(["ann"], [([HALF], "wet", 2)])
        for low, high in [([0], [1]), ("low", "high"), (Ratio(5, 4), Ratio(6, 5)), (Ratio(-1, 2), Ratio(-2, 3))]:
            with self.assertRaises(BadChance) as caught:
                area_between(record, "ann", low, high)
            self.assertIs(caught.exception.value, low)

    def test_high_below_low(self):
        record = Record(["ann"], [([HALF], "wet", 2)])
        for low, high in [(1, 0), (HALF, QUARTER), (Ratio(1, 10 ** 12), Ratio(0)), (1, Ratio(10 ** 12 - 1, 10 ** 12))]:
            with self.assertRaises(BadChance) as caught:
                area_between(record, "ann", low, high)
            self.assertIs(caught.exception.value, high)


class DaysToldBack(unittest.TestCase):
    def test_days_from_the_curve_alone(self):
        for record, days in random_records(30, 80):
            wet = sum(rain for _, rain in days)
            for name in record.people():
                points = curve(record, name)
                for given in [points, tuple(points), as_passed(points)]:
                    told = told_back(given, wet, len(days) - wet)
                    self.assertEqual(fractions(told), counted(days, name))
                    for row in told:
                        self.assertEqual([type(row), *[type(number) for number in row]], [tuple, Ratio, int, int])

    def test_chances_0_and_1(self):
        for lines in [
            [(0, "wet", 2)], [(0, "dry", 2)], [(1, "wet", 3)], [(1, "dry", 3)], [(0, "dry", 2), (1, "wet", 3)],
            [(0, "wet", 2), (1, "dry", 3)], [(0, "wet", 2), (HALF, "wet", 1), (1, "wet", 5)], [(HALF, "dry", 1)],
            [(0, "dry", 2), (HALF, "dry", 1), (1, "dry", 5)], [(HALF, "wet", 1), (1, "wet", 1)], [(0, "dry", 1), (HALF, "wet", 1)],
        ]:
            record = Record(["ann"], [([chance], weather, days) for chance, weather, days in lines])
            wet = sum(days for _, weather, days in lines if weather == "wet")
            dry = sum(days for _, weather, days in lines if weather == "dry")
            expected = [(chance, *record.counts("ann", chance)[:2]) for chance in record.said("ann")]
            self.assertTrue(told_back(curve(record, "ann"), wet, dry) == expected)

    def test_people_with_the_same_curve(self):
        for record, days in random_records(31, 80, people=(2, 3), cells=4):
            for one in record.people():
                for other in record.people():
                    same = curve(record, one) == curve(record, other)
                    self.assertIs(same, counted(days, one) == counted(days, other))


class WorstBars(unittest.TestCase):
    def test_greatest_losses(self):
        for record, days in random_records(32, 80):
            for name in record.people():
                loss, bars = worst_bars(record, name)
                rows = [(bar, lost_on(days, name, bar, True), lost_on(days, name, bar, False)) for bar in bars_of(days, name)]
                most = max(max(row[1:]) for row in rows)
                self.assertEqual(fraction(loss), most)
                self.assertEqual(fractions(bars), [row[0] for row in rows if most in row[1:]])
                self.assertEqual([type(loss), type(bars), {type(bar) for bar in bars}], [Ratio, list, {Ratio}])
                for bar in bars_near(days):
                    self.assertLessEqual(max(lost_on(days, name, bar, acts) for acts in [True, False]), most)

    def test_by_acting_by_waiting_and_by_both(self):
        for lines, loss, bars in [
            ([(HALF, "dry", 4), (HALF, "wet", 2)], 2, [HALF]), ([(HALF, "dry", 2), (HALF, "wet", 4)], 2, [HALF]),
            ([(HALF, "dry", 4), (HALF, "wet", 4)], 2, [HALF]), ([(0, "wet", 3)], 3, [0]), ([(1, "dry", 3)], 3, [1]),
            ([(0, "wet", 3), (1, "dry", 3)], 3, [0, 1]), ([(0, "dry", 3), (1, "wet", 3)], 0, [0, 1]),
            ([(QUARTER, "dry", 4), (HALF, "dry", 6)], 3, [HALF]), ([(QUARTER, "dry", 6), (HALF, "dry", 5)], Ratio(11, 4), [QUARTER]),
            ([(QUARTER, "dry", 5), (HALF, "dry", 5)], Ratio(5, 2), [QUARTER, HALF]),
            ([(QUARTER, "wet", 5), (QUARTER, "dry", 4), (HALF, "wet", 1)], Ratio(15, 4), [QUARTER]),
        ]:
            record = Record(["ann"], [([chance], weather, days) for chance, weather, days in lines])
            self.assertTrue(worst_bars(record, "ann")[0] == loss)
            self.assertTrue(worst_bars(record, "ann")[1] == bars)


if __name__ == "__main__":
    unittest.main()
