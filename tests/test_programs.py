"""What answers rest on: linear programs, flows, and bent lines."""

import unittest
from fractions import Fraction
from itertools import combinations
from random import Random

from saidchances.flows import filled
from saidchances.lines import corners, crossing
from saidchances.programs import solved
from saidchances.ratios import Ratio
from tests.days import fractions, solution


def worth_of(worth, values):
    return sum(one * other for one, other in zip(worth, values))


def best_corner(rows, limits, worth):
    """What the best corner of a program is worth, by all choices of what is 0 or at its limit."""
    count = len(worth)
    best = None
    for chosen in combinations(range(count + len(rows)), count):
        found = equations([(one_row(rows, at, count), 0 if at < count else limits[at - count]) for at in chosen], count)
        if found is None or any(value < 0 for value in found):
            continue
        if all(worth_of(row, found) <= limit for row, limit in zip(rows, limits)):
            here = worth_of(worth, found)
            best = here if best is None else max(best, here)
    return best


def one_row(rows, at, count):
    return [Fraction(at == other) for other in range(count)] if at < count else [Fraction(n) for n in rows[at - count]]


def equations(told, count):
    """The only values of so many unknowns by equations (row, sum), or None."""
    rows = [[*row, Fraction(end)] for row, end in told]
    for column in range(count):
        at = next((at for at in range(column, count) if rows[at][column]), None)
        if at is None:
            return None
        rows[column], rows[at] = rows[at], rows[column]
        rows[column] = [number / rows[column][column] for number in rows[column]]
        for other in range(count):
            if other != column:
                times = rows[other][column]
                rows[other] = [mine - times * theirs for mine, theirs in zip(rows[other], rows[column])]
    return [row[-1] for row in rows]


class Programs(unittest.TestCase):
    def check(self, rows, limits, worth):
        """The answer proves itself: values and prices keep to their bounds, and come to the same."""
        answer = solved(rows, limits, worth)
        if answer is None:
            return None
        values, prices = fractions(answer)
        self.assertEqual([len(values), len(prices)], [len(worth), len(rows)])
        self.assertTrue(all(number >= 0 for number in [*values, *prices]))
        self.assertTrue(all(worth_of(row, values) <= limit for row, limit in zip(rows, limits)))
        for at, number in enumerate(worth):
            self.assertGreaterEqual(sum(price * row[at] for price, row in zip(prices, rows)), number)
        self.assertEqual(worth_of(limits, prices), worth_of(worth, values))
        return worth_of(worth, values)

    def test_drawn_programs(self):
        random = Random(200)
        seen = set()
        for _ in range(300):
            count, many = random.randint(1, 3), random.randint(1, 4)
            rows = [[random.randint(-2, 3) for _ in range(count)] for _ in range(many)]
            limits = [random.choice([0, 0, 1, 2, 5]) for _ in range(many)]
            worth = [random.randint(-2, 4) for _ in range(count)]
            found = self.check(rows, limits, worth)
            if found is not None:
                self.assertEqual(found, best_corner(rows, limits, worth))
            seen.add(found is None)
        self.assertEqual(seen, {True, False})

    def test_no_end(self):
        self.assertIsNone(solved([[-1]], [3], [1]))
        self.assertIsNone(solved([[1, -1]], [0], [1, 0]))
        self.assertEqual(self.check([[1, -1], [0, 1]], [0, 7], [1, 0]), 7)

    def test_a_program_that_some_ways_go_round_in(self):
        # Beale's example, with whole numbers: the column of the greatest worth alone leads round for ever.
        rows = [[25, -6000, -4, 900], [50, -9000, -2, 300], [0, 0, 1, 0]]
        self.assertEqual(self.check(rows, [0, 0, 1], [75, -15000, 2, -600]), 5)


class Flows(unittest.TestCase):
    def flow(self, rooms):
        left = filled(rooms, 0, 1)
        self.assertTrue(all(left[pipe] >= 0 for pipe in left))
        for start, end in rooms:
            back = rooms.get((end, start), 0)
            self.assertEqual(left[(start, end)] + left[(end, start)], rooms[(start, end)] + back)
        return sum(rooms[pipe] - left[pipe] for pipe in rooms if pipe[0] == 0)

    def test_least_cuts(self):
        random = Random(201)
        for _ in range(150):
            nodes = range(2, random.randint(3, 6))
            rooms = {}
            for _ in range(random.randint(1, 9)):
                start, end = random.choice([0, *nodes]), random.choice([1, *nodes])
                if start != end:
                    rooms[(start, end)] = random.choice([0, 1, 2, 10 ** 12])
            cuts = []
            for many in range(len(nodes) + 1):
                for chosen in combinations(nodes, many):
                    inside = {0, *chosen}
                    cuts.append(sum(room for (start, end), room in rooms.items() if start in inside and end not in inside))
            self.assertEqual(self.flow(rooms), min(cuts))

    def test_rooms_stay(self):
        rooms = {(0, 2): 3, (2, 1): 2}
        self.assertEqual(self.flow(rooms), 2)
        self.assertEqual(rooms, {(0, 2): 3, (2, 1): 2})


class Lines(unittest.TestCase):
    def test_crossings(self):
        for start, end, expected in [(1, -1, [2]), (-1, 1, [2]), (1, 1, []), (0, 1, []), (1, 0, []), (0, 0, []), (3, -1, [Ratio(5, 2)])]:
            self.assertTrue(crossing(Ratio(1), Ratio(3), Ratio(start), Ratio(end)) == expected)

    def test_corners(self):
        self.assertEqual(corners([(0, 0), (1, 1), (2, 2)]), [(0, 0), (2, 2)])
        self.assertEqual(corners([(0, 0), (1, 2), (2, 2)]), [(0, 0), (1, 2), (2, 2)])
        self.assertEqual(corners([(0, 0), (1, 0), (2, 2)]), [(0, 0), (2, 2)])
        self.assertEqual(corners([(0, 0)]), [(0, 0)])

    def test_the_model_of_these_tests(self):
        self.assertEqual(solution([([0, 1], Fraction(3)), ([1], Fraction(1))], {}, [0, 1]), {0: 2, 1: 1})
        self.assertIsNone(solution([([0, 1], Fraction(3))], {}, [0, 1]))
        self.assertEqual(solution([([0, 1], Fraction(3))], {0: Fraction(1)}, [1]), {1: 2})


if __name__ == "__main__":
    unittest.main()
