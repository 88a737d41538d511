"""Points 22 to 25: actors, scores, and what is lost and gained by what people say."""

import unittest
from fractions import Fraction
from random import Random

from saidchances.actors import acts_on, actor_of, gain, is_actor, is_score, loss, score_loss, squares
from saidchances.errors import BadActor, BadChance, BadGains, BadScore
from saidchances.ratios import Ratio
from saidchances.records import Record
from tests.days import acted, bars_near, fraction, fractions, given, lost_on, random_records, ratio
from tests.values import deep, odd_values

HALF, THIRD = Ratio(1, 2), Ratio(1, 3)
ACTORS = [(0, True), (1, False), (HALF, True), (Ratio(0), False), (Ratio(1), True), (Ratio(1, 10 ** 12), False)]
NO_ACTORS = [
    [HALF, True], (HALF,), (HALF, True, True), (), (True, HALF), (HALF, 1), (HALF, 0), (0, 0), (1, 1), (True, True),
    (False, False), (HALF, None), (HALF, "True"), (HALF, Ratio(1)), (HALF, Ratio(0)), (None, True), ("1/2", True),
    (-1, True), (2, False), (Ratio(-1, 10 ** 12), True), (Ratio(10 ** 12 + 1, 10 ** 12), True), ([HALF], True),
    ((HALF,), True), (HALF, [True]), (HALF, (True,)), {0: True}, {HALF.top: True}, ((HALF, True),), [(HALF, True)],
    (0.5, True), (deep(900), True), (HALF, deep(900)), HALF, True, None, "ab", 5,
]
SCORES = [
    [((HALF, True), 1)], (((HALF, True), HALF),), [((0, False), Ratio(1, 10 ** 12)), ((0, False), 10 ** 12)],
    [((HALF, True), 1), ((HALF, True), 1), ((1, True), 7)], [((HALF, True), 1)] * 12,
]
NO_SCORES = [
    [], (), [(HALF, True)], [[(HALF, True), 1]], [([HALF, True], 1)], [((HALF, True),)], [((HALF, True), 1, 1)],
    [((HALF, True), 0)], [((HALF, True), -1)], [((HALF, True), Ratio(0))], [((HALF, True), Ratio(-1, 10 ** 12))],
    [((HALF, True), True)], [((HALF, True), None)], [((HALF, True), "1")], [((HALF, True), [1])],
    [((HALF, 1), 1)], [((2, True), 1)], [((HALF, True), 1), None], [((HALF, True), 1), ((HALF, True), 0)],
    [((HALF, True), 0), ((HALF, True), 1)], [(1, (HALF, True))], ((HALF, True), 1), (HALF, True), [None], [()],
    {0: ((HALF, True), 1)}, {}, "score", None, True, 5, HALF, [deep(900)], [((HALF, True), deep(900))],
]


class Judged(unittest.TestCase):
    def test_actors(self):
        for value in ACTORS:
            self.assertIs(is_actor(value), True)

    def test_values_near_actors(self):
        for value in NO_ACTORS + odd_values():
            self.assertIs(is_actor(value), False)

    def test_parts_of_actors_of_any_kind(self):
        for value in odd_values():
            bar = isinstance(value, (int, Ratio)) and not isinstance(value, bool) and 0 <= fraction(value) <= 1
            self.assertIs(is_actor((value, True)), bar)
            self.assertIs(is_actor((HALF, value)), value is True or value is False)

    def test_scores(self):
        for value in SCORES:
            self.assertIs(is_score(value), True)

    def test_values_near_scores(self):
        for value in NO_SCORES + odd_values():
            self.assertIs(is_score(value), False)

    def test_parts_of_scores_of_any_kind(self):
        for value in odd_values():
            weight = isinstance(value, (int, Ratio)) and not isinstance(value, bool) and fraction(value) > 0
            self.assertIs(is_score([((HALF, True), value)]), weight)
            self.assertIs(is_score([((HALF, True), 1), value]), False)
            self.assertIs(is_score([(value, 1)]), False)


class Acting(unittest.TestCase):
    def test_at_above_and_below_the_bar(self):
        for bar, chance, at, waiting in [
            (HALF, HALF, True, False), (HALF, Ratio(2, 3), True, True), (HALF, THIRD, False, False),
            (0, 0, True, False), (Ratio(0), 0, True, False), (0, Ratio(0), True, False), (1, 1, True, False),
            (0, 1, True, True), (1, 0, False, False), (0, Ratio(1, 10 ** 12), True, True), (1, Ratio(9, 10), False, False),
        ]:
            self.assertIs(acts_on((bar, True), chance), at)
            self.assertIs(acts_on((bar, False), chance), waiting)

    def test_by_name(self):
        self.assertIs(acts_on(chance=HALF, actor=(HALF, True)), True)

    def test_no_actors(self):
        for value in NO_ACTORS + odd_values():
            for chance in [HALF, 2, None]:
                with self.assertRaises(BadActor) as caught:
                    acts_on(value, chance)
                self.assertIs(caught.exception.actor, value)

    def test_no_chances(self):
        for value in odd_values() + [-1, 2, Ratio(3, 2), Ratio(-1, 2), 0.5]:
            if isinstance(value, (int, Ratio)) and not isinstance(value, bool) and 0 <= fraction(value) <= 1:
                self.assertIs(acts_on((0, True), value), True)
                continue
            with self.assertRaises(BadChance) as caught:
                acts_on((HALF, True), value)
            self.assertIs(caught.exception.value, value)


class Losses(unittest.TestCase):
    def test_day_by_day(self):
        for record, days in random_records(22, 60):
            for name in record.people():
                for bar in bars_near(days):
                    for acts in [True, False]:
                        value = loss(record, name, (ratio(bar), acts))
                        self.assertIs(type(value), Ratio)
                        self.assertEqual(fraction(value), lost_on(days, name, bar, acts))

    def test_scores_and_squares_day_by_day(self):
        random = Random(23)
        for record, days in random_records(24, 60):
            for name in record.people():
                score, expected = [], Fraction(0)
                for _ in range(random.randint(1, 10)):
                    bar, acts = random.choice(bars_near(days)), random.random() < 0.5
                    weight = random.choice([Fraction(1), Fraction(3), Fraction(1, 3), Fraction(7, 2)])
                    score.append(((given(random, bar), acts), given(random, weight)))
                    expected += weight * lost_on(days, name, bar, acts)
                for passed in [score, tuple(score)]:
                    self.assertIs(type(score_loss(record, name, passed)), Ratio)
                    self.assertEqual(fraction(score_loss(record, name, passed)), expected)
                self.assertIs(type(squares(record, name)), Ratio)
                self.assertEqual(fraction(squares(record, name)), sum((said[name] - wet) ** 2 for said, wet in days))

    def test_several_cells_with_one_chance(self):
        record = Record(["ann", "bob"], [
            ([HALF, 0], "wet", 1), ([HALF, 1], "wet", 2), ([HALF, 1], "dry", 4), ([0, THIRD], "wet", 8), ([0, 0], "dry", 16),
        ])
        self.assertTrue(loss(record, "ann", (HALF, True)) == Ratio(4 + 8, 2))
        self.assertTrue(loss(record, "ann", (HALF, False)) == Ratio(11, 2))
        self.assertTrue(loss(record, "ann", (0, False)) == 8)
        self.assertTrue(loss(record, "ann", (1, True)) == 0)
        self.assertTrue(loss(record, "bob", (1, True)) == 4)
        self.assertTrue(loss(record, "bob", (0, True)) == 0)
        self.assertTrue(loss(record, "bob", (0, False)) == 1)
        self.assertTrue(squares(record, "bob") == Ratio(1 + 4) + Ratio(8 * 4, 9))

    def test_no_actors_and_no_scores(self):
        record = Record(["ann"], [([HALF], "wet", 1)])
        for value in NO_ACTORS + odd_values():
            with self.assertRaises(BadActor) as caught:
                loss(record, "ann", value)
            self.assertIs(caught.exception.actor, value)
        for value in NO_SCORES + odd_values():
            with self.assertRaises(BadScore) as caught:
                score_loss(record, "ann", value)
            self.assertIs(caught.exception.score, value)

    def test_by_name(self):
        record = Record(["ann"], [([HALF], "wet", 1)])
        self.assertTrue(loss(actor=(HALF, False), name="ann", record=record) == HALF)
        self.assertTrue(score_loss(score=[((HALF, False), 4)], name="ann", record=record) == 2)
        self.assertTrue(squares(name="ann", record=record) == Ratio(1, 4))

    def test_what_is_passed_stays(self):
        score = [((HALF, True), 2), ((0, False), THIRD)]
        record = Record(["ann"], [([HALF], "wet", 1), ([0], "dry", 2)])
        kept, text = list(score), str(record)
        score_loss(record, "ann", score)
        self.assertTrue(score == kept)
        self.assertEqual(str(record), text)

    def test_equal_records(self):
        lines = [([HALF, 0], "wet", 2), ([0, THIRD], "dry", 3), ([1, 1], "wet", 1)]
        one = Record(["ann", "bob"], lines)
        other = Record(["bob", "ann"], [((right, left), weather, days) for (left, right), weather, days in lines[::-1]])
        for name in ["ann", "bob"]:
            self.assertTrue(loss(one, name, (THIRD, True)) == loss(other, name, (THIRD, True)))
            self.assertTrue(squares(one, name) == squares(other, name))


GAINS = [
    [4, 0, 0, 4], [1, 0, 0, 1], [-1, -2, -7, -3], (HALF, THIRD, Ratio(-1, 6), 0), [0, -5, 10, 11], [10, 9, 0, 1000],
    [3, -3, 2, Ratio(7, 3)], [-10, -20, -40, -30], [Ratio(1, 10 ** 12), 0, -(10 ** 12), 10 ** 12],
]
NO_GAINS = [
    [], (), [1, 0, 0], [1, 0, 0, 1, 1], [1], [0, 0, 0, 1], [1, 0, 1, 1], [0, 1, 0, 1], [1, 0, 1, 0], [HALF, HALF, 0, 1],
    [1, 0, HALF, HALF], [0, 1, 1, 0], [True, 0, 0, 1], [1, False, 0, 1], [1, 0, None, 1], [1, 0, 0, "1"], [[1], 0, 0, 1],
    [1, 0, 0, [1]], "1001", {1: 1, 2: 0, 3: 0, 4: 1}, {}, None, True, 5, HALF, [(1, 0), (0, 1)], [1, 0, 0, deep(900)],
    ((1, 0, 0, 1),), [[1, 0, 0, 1]],
]


def gained(days, name, gains, bar, acts):
    """What is gained, day by day."""
    return sum(gains[(0 if wet else 2) + (0 if acted(said[name], bar, acts) else 1)] for said, wet in days)


class Gains(unittest.TestCase):
    def test_gains_are_the_better_ones_less_the_loss(self):
        for record, days in random_records(25, 25):
            for gains in GAINS:
                numbers = [fraction(number) for number in gains]
                better = sum(max(numbers[:2]) if wet else max(numbers[2:]) for _, wet in days)
                for acts in [True, False]:
                    actor, factor = actor_of(gains, acts)
                    self.assertIs(type(gain(record, "ann", gains, acts)), Ratio)
                    value = fraction(gain(record, "ann", gains, acts))
                    self.assertEqual(value, gained(days, "ann", numbers, fraction(actor[0]), acts))
                    self.assertEqual(value, better - fraction(factor) * lost_on(days, "ann", fraction(actor[0]), acts))

    def test_actors_of_gains(self):
        for gains, bar, factor in [
            ([4, 0, 0, 4], HALF, 8), ([1, 0, 0, 3], Ratio(3, 4), 4), ((-1, -2, -7, -3), Ratio(4, 5), 5),
            ([HALF, 0, 0, THIRD], Ratio(2, 5), Ratio(5, 6)), ([10, 0, 9, 10], Ratio(1, 11), 11),
        ]:
            for acts in [True, False]:
                answer = actor_of(gains, acts)
                self.assertEqual([type(answer), type(answer[0]), len(answer), len(answer[0])], [tuple, tuple, 2, 2])
                self.assertEqual([type(answer[0][0]), type(answer[1])], [Ratio, Ratio])
                self.assertTrue(answer[0][0] == bar)
                self.assertIs(answer[0][1], acts)
                self.assertTrue(answer[1] == factor)

    def test_whoever_says_the_bar(self):
        record = Record(["ann"], [([HALF], "wet", 1), ([HALF], "dry", 10)])
        self.assertTrue(gain(record, "ann", [5, 2, 1, 4], True) == 5 + 10)
        self.assertTrue(gain(record, "ann", [5, 2, 1, 4], False) == 2 + 40)

    def test_no_gains(self):
        record = Record(["ann"], [([HALF], "wet", 1)])
        for value in NO_GAINS + odd_values():
            for question in [lambda: actor_of(value, True), lambda: gain(record, "ann", value, False)]:
                with self.assertRaises(BadGains) as caught:
                    question()
                self.assertIs(caught.exception.gains, value)

    def test_numbers_of_any_kind(self):
        for value in odd_values():
            number = isinstance(value, (int, Ratio)) and not isinstance(value, bool)
            for at, bound in [(0, 3), (1, 4), (2, 4), (3, 3)]:
                gains = [4, 3, 3, 4]
                gains[at] = value
                above = number and fraction(value) > bound
                below = number and fraction(value) < bound
                if (above if at in (0, 3) else below):
                    self.assertIs(actor_of(gains, False)[0][1], False)
                else:
                    with self.assertRaises(BadGains) as caught:
                        actor_of(gains, True)
                    self.assertIs(caught.exception.gains, gains)

    def test_by_name(self):
        record = Record(["ann"], [([HALF], "wet", 1)])
        self.assertTrue(actor_of(acts=True, gains=[4, 0, 0, 4])[1] == 8)
        self.assertTrue(gain(acts=False, gains=[4, 0, 0, 4], name="ann", record=record) == 0)

    def test_what_is_passed_stays(self):
        gains = [4, Ratio(0), 0, THIRD]
        kept = list(gains)
        actor_of(gains, True)
        gain(Record(["ann"], [([HALF], "wet", 1)]), "ann", gains, True)
        self.assertEqual([id(item) for item in gains], [id(item) for item in kept])
        self.assertTrue(fractions(actor_of(gains, True)) == fractions(actor_of(tuple(gains), True)))


if __name__ == "__main__":
    unittest.main()
