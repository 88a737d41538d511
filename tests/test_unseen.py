"""Points 57 to 61: outcomes by which all come true, and stakes that gain for sure."""

import unittest
from fractions import Fraction
from itertools import product
from random import Random

from saidchances.errors import BadCells, BadStakes, NoCell, NoOutcomes
from saidchances.ratios import Ratio
from saidchances.records import Record
from saidchances.righted import reliable
from saidchances.twos import barring, whole_outcomes
from saidchances.unseen import (
    heard, is_outcomes, is_winning, least_wet, most_wet, outcomes, sure_gain, winning_stakes,
)
from tests.days import (
    NAMES, all_whole, cells_of, corners_of, dues_by, fraction, fractions, gain_by, given, hidden_lines, random_lines,
    random_weather, ratio, record_by, sums_by,
)
from tests.values import deep, odd_values

HALF, THIRD, QUARTER, THREE = Ratio(1, 2), Ratio(1, 3), Ratio(1, 4), Ratio(3, 4)


def crossed():
    return Record.read("people ann bob\n1/4 3/4 open 4\n3/4 1/4 open 4")


def mixed():
    return Record.read("people ann bob\n1/4 1/4 open 2\n1/4 3/4 open 2\n3/4 1/4 open 2\n3/4 3/4 open 2")


def wide():
    return Record.read("people ann bob\n1/4 1/4 open 4\n1/4 1/2 open 4\n1/2 1/4 open 4\n1/2 1/2 open 4")


def is_true(record, numbers):
    """Point 4 word for word: whether numbers are outcomes by which all come true."""
    inside = all(wet <= number <= wet + untold for (_, wet, _, untold), number in zip(cells_of(record), numbers))
    return inside and sums_by(record, numbers) == dues_by(record)


def is_number(value):
    return isinstance(value, (int, Ratio)) and not isinstance(value, bool)


def lengths(record):
    """How many chances each person said."""
    return [len({cell[place] for cell, *_ in cells_of(record)}) for place in range(len(record.people()))]


class Outcomes(unittest.TestCase):
    def test_just_one_of_outcomes_and_stakes(self):
        seen = set()
        for record in random_weather(140, 400, cells=6):
            found, stakes = outcomes(record), winning_stakes(record)
            self.assertIs(found is None, stakes is not None)
            if found is None:
                self.check_stakes(record, stakes)
            else:
                self.check_outcomes(record, found)
            seen.add((len(record.people()), record.closed(), found is None))
        self.assertEqual(len(seen), 12)

    def check_outcomes(self, record, found):
        self.assertEqual([type(found), len(found)], [list, len(record.cells())])
        self.assertEqual({type(number) for number in found}, {Ratio})
        self.assertTrue(is_true(record, fractions(found)))
        self.assertIs(is_outcomes(record, found), True)
        self.assertIs(is_outcomes(record, tuple(found)), True)

    def check_stakes(self, record, stakes):
        self.assertEqual([type(stakes), *[type(row) for row in stakes]], [list] * (1 + len(record.people())))
        self.assertEqual([len(row) for row in stakes], lengths(record))
        self.assertEqual({type(number) for row in stakes for number in row}, {Ratio})
        self.assertGreater(gain_by(record, fractions(stakes)), 0)
        self.assertIs(is_winning(record, stakes), True)
        self.assertIs(is_winning(record, tuple(tuple(row) for row in stakes)), True)

    def test_exactly_if_there_are_corners(self):
        seen = set()
        for record in random_weather(141, 120, cells=4):
            exist = corners_of(record) != []
            self.assertIs(outcomes(record) is not None, exist)
            seen.add((len(record.people()), exist))
        self.assertEqual(len(seen), 6)

    def test_two_people_as_the_bars_tell(self):
        for record in random_weather(142, 150, people=(2,), cells=6):
            self.assertIs(outcomes(record) is None, barring(record) is not None)
            if whole_outcomes(record) is not None:
                self.assertIs(is_outcomes(record, whole_outcomes(record)), True)

    def test_closed_records(self):
        seen = set()
        for record in random_weather(143, 300, cells=4):
            if record.closed():
                wet = [record.days(cell)[0] for cell in record.cells()]
                true = all(reliable(record, name) for name in record.people())
                self.assertIs(is_outcomes(record, wet), true)
                self.assertIs(outcomes(record) is not None, true)
                self.assertTrue(not true or outcomes(record) == wet)
                seen.add(true)
        self.assertEqual(seen, {True, False})

    def test_outcomes_in_parts_of_days(self):
        record = Record(["ann"], [([HALF], "open", 3)])
        self.assertTrue(outcomes(record) == [Ratio(3, 2)])
        three = Record(NAMES, [
            ([0, HALF, HALF], "open", 1), ([HALF, 0, HALF], "open", 1), ([HALF, HALF, 0], "open", 1),
            ([HALF, HALF, HALF], "open", 1),
        ])
        found = outcomes(three)
        self.assertTrue(found is None or is_true(three, fractions(found)))

    def test_three_people_who_come_true_by_no_whole_days(self):
        # Two of the three cells of each of three chances are wet: by halves alone.
        said = [[1, 1, 0], [1, 0, 1], [0, 1, 1], [0, 0, 0]]
        low, high = Ratio(1, 4), Ratio(1, 2)
        lines = [([[low, high][mark] for mark in row], "open", 1) for row in said]
        record = Record(NAMES, lines)
        found = outcomes(record)
        self.assertIs(found is not None, corners_of(record) != [])

    def test_judged_outcomes(self):
        random = Random(144)
        seen = set()
        for record in random_weather(145, 200, cells=5):
            start = fractions(outcomes(record) or [Fraction(wet) for _, wet, _, _ in cells_of(record)])
            for _ in range(8):
                numbers = self.moved(random, record, start)
                value = random.choice([list, tuple])(given(random, number) for number in numbers)
                expected = is_true(record, numbers)
                self.assertIs(is_outcomes(record, value), expected)
                seen.add((expected, numbers == start))
            self.assertIs(is_outcomes(record, [ratio(number) for number in start] + [0]), False)
            self.assertIs(is_outcomes(record, [ratio(number) for number in start[:-1]]), False)
        self.assertEqual(len(seen), 4)

    def moved(self, random, record, start):
        """Numbers with wet days moved along some cells, which may well leave all sums as they were."""
        cells = [cell for cell, *_ in cells_of(record)]
        numbers = list(start)
        many = Fraction(random.randint(0, 4), random.choice([1, 2, 3]))
        if outcomes(record) is not None and random.random() < 0.5:
            far = fractions(most_wet(record, [random.choice(record.cells())])[1])
            return [one + (other - one) * many for one, other in zip(numbers, far)]
        for _ in range(random.randint(0, 3)):
            one, other = random.choice(cells), random.choice(cells)
            place = random.randrange(len(one))
            first = one[:place] + other[place:place + 1] + one[place + 1:]
            second = other[:place] + one[place:place + 1] + other[place + 1:]
            if first in cells and second in cells:
                for cell, more in [(one, many), (other, many), (first, -many), (second, -many)]:
                    numbers[cells.index(cell)] += more
        if random.random() < 0.2:
            numbers[random.randrange(len(numbers))] += random.choice([1, -1, Fraction(1, 10 ** 12)])
        return numbers

    def test_values_near_outcomes(self):
        record = mixed()
        self.assertIs(is_outcomes(record, [0, 1, 1, 2]), True)
        self.assertIs(is_outcomes(record, (Ratio(0), 1, Ratio(2, 2), 2)), True)
        for value in [
            [HALF, HALF, HALF, Ratio(5, 2)], [Ratio(-1, 2), Ratio(3, 2), Ratio(3, 2), Ratio(3, 2)], [0, 1, 1], [0, 1, 1, 2, 0],
            [0, 1, 1, 1], [0, True, 1, 2], [False, 1, 1, 2], [0, 1, 1, "2"], [0, 1, [1], 2], [0, 1, None, 2], "0112",
            {0: 0, 1: 1, 2: 1, 3: 2}, [], None, [[0, 1, 1, 2]], [0, 1, 1, deep(900)], [0, 1, 1, {}], [0, 2, 0, 2],
        ] + odd_values():
            self.assertIs(is_outcomes(record, value), False)
        closed = Record(["ann"], [([HALF], "wet", 2), ([HALF], "dry", 2)])
        for value in odd_values():
            self.assertIs(is_outcomes(closed, [value]), is_number(value) and value == 2)

    def test_each_end_of_a_cell(self):
        record = Record(["ann"], [([HALF], "wet", 1), ([HALF], "dry", 1), ([HALF], "open", 2), ([0], "dry", 1)])
        self.assertIs(is_outcomes(record, [0, 2]), True)
        for lines in [[([QUARTER], "wet", 2), ([QUARTER], "open", 2)], [([THREE], "dry", 2), ([THREE], "open", 2)]]:
            other = Record(["ann"], lines)
            self.assertIs(is_outcomes(other, [1]), False)
            self.assertIs(is_outcomes(other, [3]), False)
            self.assertIsNone(outcomes(other))


class Stakes(unittest.TestCase):
    def test_sure_gains_day_by_day(self):
        random = Random(146)
        for record in random_weather(147, 200):
            for _ in range(3):
                stakes = [[Fraction(random.randint(-4, 4), random.choice([1, 1, 2, 3])) for _ in range(many)] for many in lengths(record)]
                value = [[given(random, number) for number in row] for row in stakes]
                gain = sure_gain(record, value)
                self.assertIs(type(gain), Ratio)
                self.assertEqual(fraction(gain), gain_by(record, stakes))
                self.assertTrue(sure_gain(record, tuple(tuple(row) for row in value)) == gain)
                self.assertIs(is_winning(record, value), gain_by(record, stakes) > 0)
                self.assertFalse(gain_by(record, stakes) > 0 and outcomes(record) is not None)

    def test_by_each_weather_of_the_open_days(self):
        random = Random(148)
        for record in random_weather(149, 60, cells=3, most=2):
            stakes = [[Fraction(random.randint(-3, 3)) for _ in range(many)] for many in lengths(record)]
            closed_gains = []
            ranges = [range(untold + 1) for _, _, _, untold in cells_of(record)]
            for many in product(*ranges):
                lines = []
                for (cell, wet, dry, untold), more in zip(cells_of(record), many):
                    lines += [(cell, "wet", wet + more), (cell, "dry", dry + untold - more)]
                told = Record(record.people(), [
                    ([ratio(chance) for chance in cell], weather, days) for cell, weather, days in lines if days
                ])
                closed_gains.append(gain_by(told, stakes))
            gain = sure_gain(record, [[int(number) for number in row] for row in stakes])
            self.assertEqual(fraction(gain), min(closed_gains))

    def test_by_hand(self):
        record = Record(["ann"], [([HALF], "wet", 1), ([HALF], "dry", 3), ([QUARTER], "open", 4)])
        self.assertTrue(sure_gain(record, [[0, 1]]) == -1)
        self.assertTrue(sure_gain(record, [[0, -1]]) == 1)
        self.assertTrue(sure_gain(record, [[1, 0]]) == -1)
        self.assertTrue(sure_gain(record, [[-1, 0]]) == -3)
        self.assertTrue(sure_gain(record, [[0, 0]]) == 0)
        self.assertTrue(sure_gain(crossed(), [[0, -1], [1, 0]]) == 2)

    def test_no_stakes(self):
        record = Record(["ann", "bob"], [([HALF, 0], "open", 1), ([QUARTER, 0], "wet", 2)])
        sure_gain(record, [[0, 1], [2]])
        for value in [
            [], [[0, 1]], [[0, 1], []], [[0], [2]], [[0, 1], [2, 3]], [[0, 1, 2], [3]], [[0, 1], [2], []], [[2], [0, 1]],
            [[0, 1], 2], [0, 1, 2], [[0, 1], [True]], [[0, False], [2]], [[0, None], [2]], [["0", 1], [2]], [[0, 1], "2"],
            [[0, 1], {0: 2}], {0: [0, 1], 1: [2]}, [{}, [2]], [[0, [1]], [2]], [[0, 1], [deep(900)]], "ab", None, True, 3,
            [[0, 1], None], [[0, 1], [None]], [[0, 1], [{}]], [[[0, 1], [2]]],
        ] + odd_values():
            with self.assertRaises(BadStakes) as caught:
                sure_gain(record, value)
            self.assertIs(caught.exception.stakes, value)
            self.assertIs(is_winning(record, value), False)

    def test_numbers_of_any_kind(self):
        record = Record(["ann"], [([HALF], "dry", 2)])
        for value in odd_values():
            if is_number(value):
                self.assertTrue(sure_gain(record, [[value]]) == -ratio(fraction(value)))
                self.assertIs(is_winning(record, [[value]]), fraction(value) < 0)
                continue
            stakes = [[value]]
            with self.assertRaises(BadStakes) as caught:
                sure_gain(record, stakes)
            self.assertIs(caught.exception.stakes, stakes)
            self.assertIs(is_winning(record, stakes), False)

    def test_judged_stakes(self):
        random = Random(150)
        seen = set()
        for record in random_weather(151, 200):
            stakes = fractions(winning_stakes(record) or [[Fraction(1)] * many for many in lengths(record)])
            for _ in range(4):
                near = [[number + random.choice([0, 0, 1, -1, Fraction(1, 9)]) for number in row] for row in stakes]
                expected = gain_by(record, near) > 0
                self.assertIs(is_winning(record, [[given(random, number) for number in row] for row in near]), expected)
                seen.add((expected, near == stakes))
        self.assertEqual(len(seen), 4)


class Wet(unittest.TestCase):
    def test_against_all_corners(self):
        random = Random(152)
        seen = set()
        records = list(random_weather(153, 160, cells=5))
        records += [record_by(random, hidden_lines(random, NAMES, 8, 3, 0.2, marks=2)) for _ in range(25)]
        for record in records:
            ends = corners_of(record)
            cells = record.cells()
            for _ in range(3):
                chosen = [at for at in range(len(cells)) if random.random() < 0.5]
                random.shuffle(chosen)
                passed = [tuple(given(random, fraction(chance)) for chance in cells[at]) for at in chosen]
                if ends == []:
                    self.check_none(record, passed)
                    continue
                sums = [sum(numbers[at] for at in chosen) for numbers in ends]
                self.check(least_wet(record, passed), record, chosen, min(sums))
                self.check(most_wet(record, tuple(passed)), record, chosen, max(sums))
                seen.add((len(record.people()), min(sums) == max(sums)))
        self.assertGreater(len(seen), 4)

    def check(self, answer, record, chosen, expected):
        self.assertEqual([type(answer), len(answer), type(answer[0]), type(answer[1])], [tuple, 2, Ratio, list])
        self.assertEqual({type(number) for number in answer[1]}, {Ratio})
        self.assertEqual(fraction(answer[0]), expected)
        numbers = fractions(answer[1])
        self.assertTrue(is_true(record, numbers))
        self.assertEqual(sum(numbers[at] for at in chosen), expected)

    def check_none(self, record, passed):
        for function in [least_wet, most_wet]:
            with self.assertRaises(NoOutcomes):
                function(record, passed)

    def test_against_all_whole_outcomes(self):
        random = Random(154)
        many = 0
        for _ in range(80):
            record = record_by(random, hidden_lines(random, NAMES[:2], 6, 3, 0.2))
            ways = all_whole(record)
            chosen = [at for at in range(len(record.cells())) if random.random() < 0.5]
            cells = [record.cells()[at] for at in chosen]
            sums = [sum(way[at] for at in chosen) for way in ways]
            self.assertTrue(least_wet(record, cells)[0] == min(sums))
            self.assertTrue(most_wet(record, cells)[0] == max(sums))
            many += min(sums) < max(sums)
        self.assertGreater(many, 5)

    def test_no_cells_one_cell_all_cells(self):
        record = wide()
        cells = record.cells()
        for function, one in [(least_wet, 0), (most_wet, 2)]:
            for none in [[], ()]:
                number, found = function(record, none)
                self.assertTrue(number == 0)
                self.assertTrue(is_true(record, fractions(found)))
            self.assertTrue(function(record, cells[:1])[0] == one)
            self.assertTrue(function(record, cells)[0] == 6)
            self.assertTrue(function(record, cells[::-1])[0] == 6)
            self.assertTrue(function(record, cells[:2])[0] == 2)
        self.assertTrue(least_wet(record, [cells[0], cells[3]])[0] == 2)
        self.assertTrue(most_wet(record, [cells[3], cells[0]])[0] == 6)

    def test_no_cells_of_the_record(self):
        record = wide()
        cells = record.cells()
        low = (QUARTER, QUARTER)
        wrong = [
            [low, low], [*cells, low], [(QUARTER, Ratio(1, 3))], [(QUARTER,)], [(QUARTER, QUARTER, QUARTER)], [()],
            [list(low)], [low, None], [low, "ab"], low, {0: low}, {}, "cells", None, [[low]], [QUARTER], [(low,)],
            [(True, QUARTER)], [(QUARTER, "1/4")], [(QUARTER, deep(900))], [({}, QUARTER)], [low, (0, 0)], [(HALF, QUARTER), (HALF, QUARTER)],
        ]
        for value in wrong + [value for value in odd_values() if value not in ([], ())]:
            for function in [least_wet, most_wet]:
                with self.assertRaises(BadCells) as caught:
                    function(record, value)
                self.assertIs(caught.exception.cells, value)
        for value in odd_values():
            if isinstance(value, tuple) and value == (HALF, HALF):
                continue
            with self.assertRaises(BadCells):
                least_wet(record, [value])
            with self.assertRaises(BadCells):
                most_wet(record, [low, (QUARTER, value)] if value != HALF else [None])

    def test_bad_cells_ahead_of_no_outcomes(self):
        record = crossed()
        for function in [least_wet, most_wet]:
            for value in [None, [(0, 0)], [(QUARTER, THREE), (QUARTER, THREE)], {}]:
                with self.assertRaises(BadCells):
                    function(record, value)
            for value in [[], (), record.cells(), [(QUARTER, THREE)]]:
                with self.assertRaises(NoOutcomes):
                    function(record, value)

    def test_true_is_no_chance(self):
        record = Record(["ann"], [([1], "wet", 1), ([0], "dry", 2)])
        self.assertTrue(most_wet(record, [(1,)])[0] == 1)
        for value in [[(True,)], [(False,)]]:
            with self.assertRaises(BadCells):
                most_wet(record, value)


class Heard(unittest.TestCase):
    def test_between_the_ends(self):
        random = Random(155)
        for record in random_weather(156, 100):
            ends = corners_of(record)
            for at, (cell, wet, dry, untold) in enumerate(cells_of(record)):
                passed = tuple(given(random, chance) for chance in cell)
                if ends == []:
                    with self.assertRaises(NoOutcomes):
                        heard(record, passed)
                    continue
                answer = heard(record, passed)
                self.assertEqual([type(answer), *[type(end) for end in answer]], [tuple, Ratio, Ratio])
                numbers = [row[at] for row in ends]
                days = wet + dry + untold
                self.assertEqual(fractions(answer), (min(numbers) / days, max(numbers) / days))

    def test_telling_weather_never_widens(self):
        random = Random(157)
        narrowed = 0
        for _ in range(150):
            lines = hidden_lines(random, NAMES[:random.randint(1, 3)], 5, 3, 0.1)
            record = record_by(random, lines)
            told = [
                (said, random.choice(["wet", "dry"]) if weather == "open" and random.random() < 0.2 else weather, days)
                for said, weather, days in lines
            ]
            later = record_by(random, told)
            if outcomes(later) is None:
                continue
            for cell in record.cells():
                before, after = fractions(heard(record, cell)), fractions(heard(later, cell))
                self.assertTrue(before[0] <= after[0] <= after[1] <= before[1])
                narrowed += before != after
        self.assertGreater(narrowed, 10)

    def test_no_cell(self):
        for record in [wide(), crossed()]:
            for value in odd_values() + [
                (QUARTER,), (QUARTER, THIRD), [QUARTER, QUARTER], (QUARTER, QUARTER, QUARTER), (True, QUARTER), ((QUARTER, QUARTER),),
                (QUARTER, None), (QUARTER, {}), "1/4 1/4", [(QUARTER, THREE)],
            ]:
                if value == (HALF, HALF) and isinstance(value, tuple) and record == wide():
                    heard(record, value)
                    continue
                with self.assertRaises(NoCell) as caught:
                    heard(record, value)
                self.assertIs(caught.exception.cell, value)
        with self.assertRaises(NoOutcomes):
            heard(crossed(), (QUARTER, THREE))

    def test_people_in_another_order(self):
        record = Record(["bob", "ann"], [([0, HALF], "open", 2), ([HALF, HALF], "open", 2), ([HALF, 1], "wet", 2), ([1, 0], "open", 0 + 1)])
        for cell in record.cells():
            with self.assertRaises(NoOutcomes):
                heard(record, cell)
        with self.assertRaises(NoCell):
            heard(record, (0, HALF))


class Callers(unittest.TestCase):
    def test_by_name(self):
        record = wide()
        low = (QUARTER, QUARTER)
        self.assertIsNotNone(outcomes(record=record))
        self.assertIs(is_outcomes(value=None, record=record), False)
        self.assertTrue(sure_gain(stakes=[[0, 0], [0, 0]], record=record) == 0)
        self.assertIsNone(winning_stakes(record=record))
        self.assertIs(is_winning(value=None, record=record), False)
        self.assertTrue(least_wet(cells=[low], record=record)[0] == 0)
        self.assertTrue(most_wet(cells=[low], record=record)[0] == 2)
        self.assertTrue(heard(cell=low, record=record) == (0, HALF))

    def test_lists_that_the_caller_changes(self):
        record = wide()
        for function in [outcomes, lambda record: least_wet(record, [])[1], lambda record: most_wet(record, [])[1]]:
            kept = function(record)
            function(record).clear()
            self.assertTrue(function(record) == kept)
        kept = winning_stakes(crossed())
        found = winning_stakes(crossed())
        found[0].clear()
        found.pop()
        self.assertTrue(winning_stakes(crossed()) == kept)

    def test_what_is_passed_stays(self):
        record, stakes = wide(), [[1, 2], [3, 4]]
        text, cells = str(record), record.cells()
        kept = list(cells)
        sure_gain(record, stakes)
        most_wet(record, cells)
        least_wet(record, cells)
        self.assertEqual(stakes, [[1, 2], [3, 4]])
        self.assertTrue(cells == kept)
        self.assertEqual(str(record), text)

    def test_equal_records(self):
        random = Random(158)
        for _ in range(60):
            names = NAMES[:random.randint(1, 3)]
            lines = random.choice([random_lines, hidden_lines])(random, names, 5)
            one, other = record_by(random, lines), record_by(random, lines)
            self.assertTrue(outcomes(one) == outcomes(other))
            self.assertTrue(winning_stakes(one) == winning_stakes(other))
            if outcomes(one) is not None:
                cells = one.cells()[:2]
                self.assertTrue(most_wet(one, cells) == most_wet(other, cells))
                self.assertTrue(least_wet(one, cells) == least_wet(other, [tuple(cell) for cell in cells]))

    def test_great_numbers(self):
        random = Random(159)
        for count in [1, 2, 3]:
            for chances in [2, 4, 16]:
                names = NAMES[:count]
                said = [[Ratio(random.randint(0, 10 ** 12 - 2), 10 ** 12 - 1) for _ in range(chances)] for _ in names]
                cells = random.sample(list(product(range(chances), repeat=count)), min(16, chances ** count))
                lines = [
                    ([said[place][mark] for place, mark in enumerate(cell)], weather, random.randint(1, 10 ** 12 - 1))
                    for cell in cells for weather in random.sample(["wet", "dry", "open", "open"], 3)
                ]
                record = Record(names, lines)
                found = outcomes(record)
                if found is None:
                    self.assertGreater(gain_by(record, fractions(winning_stakes(record))), 0)
                else:
                    self.assertTrue(is_true(record, fractions(found)))


if __name__ == "__main__":
    unittest.main()
