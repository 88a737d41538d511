"""Points 35 to 38: shares, functions of what people said, and the parts of losses."""

import unittest
from fractions import Fraction
from itertools import product
from random import Random

from saidchances.actors import loss, score_loss, squares
from saidchances.errors import BadActor, BadPairs, BadScore
from saidchances.ratios import Ratio
from saidchances.records import Record
from saidchances.righted import led, parts, put_right, reliable, score_parts, shares, square_parts, unreliable
from tests.days import as_days, bars_near, counted, fraction, fractions, given, lost_on, random_records, ratio
from tests.test_actors import NO_ACTORS, NO_SCORES
from tests.values import deep, odd_values

HALF, THIRD, QUARTER, THREE = Ratio(1, 2), Ratio(1, 3), Ratio(1, 4), Ratio(3, 4)


def expected_shares(days, name):
    return [(chance, Fraction(wet, wet + dry)) for chance, wet, dry in counted(days, name)]


def sorted_days(days):
    return sorted((sorted(said.items()), wet) for said, wet in days)


def days_led(days, name, table):
    """The days on which a person said other chances."""
    return [({**said, name: table[said[name]]}, wet) for said, wet in days]


def cid():
    return Record.read("people cid\n1/4 wet 1\n1/4 dry 1\n1/2 dry 2\n3/4 wet 2")


def steady():
    """A record of a reliable person, and of one who is not."""
    return Record(["ann", "bob"], [
        ([QUARTER, 0], "wet", 1), ([QUARTER, HALF], "dry", 3), ([THREE, HALF], "wet", 3), ([THREE, 1], "dry", 1),
        ([0, 1], "dry", 2), ([1, 0], "wet", 2),
    ])


class Shares(unittest.TestCase):
    def test_shares_of_all_chances(self):
        seen = set()
        for record, days in random_records(50, 120, cells=6):
            for name in record.people():
                expected = expected_shares(days, name)
                self.assertEqual(fractions(shares(record, name)), expected)
                self.assertIs(type(shares(record, name)), list)
                for row in shares(record, name):
                    self.assertEqual([type(row), *[type(number) for number in row]], [tuple, Ratio, Ratio])
                off = [chance for chance, share in expected if chance != share]
                self.assertEqual(fractions(unreliable(record, name)), off)
                self.assertIs(type(unreliable(record, name)), list)
                self.assertEqual({type(chance) for chance in unreliable(record, name)} - {Ratio}, set())
                self.assertIs(reliable(record, name), off == [])
                seen.add(off == [])
        self.assertEqual(seen, {True, False})

    def test_reliable_people(self):
        record = steady()
        self.assertIs(reliable(record, "ann"), True)
        self.assertEqual(unreliable(record, "ann"), [])
        self.assertIs(reliable(record, "bob"), False)
        self.assertTrue(unreliable(record, "bob") == [0, 1])
        self.assertTrue(shares(record, "bob") == [(0, 1), (HALF, HALF), (1, 0)])

    def test_chances_0_and_1(self):
        for chance, weather, expected in [(0, "dry", True), (0, "wet", False), (1, "wet", True), (1, "dry", False)]:
            self.assertIs(reliable(Record(["ann"], [([chance], weather, 3)]), "ann"), expected)

    def test_who_is_reliable_comes_true(self):
        for record, _ in random_records(51, 60, cells=4):
            for name in record.people():
                true = all(
                    record.due(name, chance) == record.counts(name, chance)[0] for chance in record.said(name)
                )
                self.assertIs(reliable(record, name), true)


class Functions(unittest.TestCase):
    def test_led_by_functions(self):
        random = Random(52)
        for record, days in random_records(53, 100):
            text = str(record)
            for name in record.people():
                said = [chance for chance, _, _ in counted(days, name)]
                table = {chance: Fraction(random.randint(0, 3), 3) for chance in said}
                pairs = [(given(random, chance), given(random, table[chance])) for chance in said]
                for passed in [pairs, tuple(pairs)]:
                    other = led(record, name, passed)
                    self.assertIs(type(other), Record)
                    self.assertEqual(other.people(), record.people())
                    self.assertEqual(sorted_days(as_days(other)), sorted_days(days_led(days, name, table)))
            self.assertEqual(str(record), text)

    def test_merged_chances(self):
        record = Record(["ann", "bob"], [([0, HALF], "wet", 1), ([HALF, HALF], "wet", 2), ([1, HALF], "dry", 4), ([1, 0], "dry", 8)])
        other = led(record, "ann", [(0, THIRD), (HALF, THIRD), (1, THIRD)])
        self.assertEqual(str(other).split("\n"), ["people ann bob", "1/3 0 dry 8", "1/3 1/2 wet 3", "1/3 1/2 dry 4"])
        same = led(record, "ann", [(0, 0), (HALF, HALF), (1, 1)])
        self.assertTrue(same == record)
        turned = led(record, "ann", [(0, 1), (HALF, HALF), (1, 0)])
        self.assertEqual(turned.days((0, HALF)), (0, 4, 0))
        self.assertTrue(led(turned, "ann", [(0, 1), (HALF, HALF), (1, 0)]) == record)

    def test_lists_near_a_function(self):
        record = Record(["ann", "bob"], [([0, HALF], "wet", 1), ([HALF, THIRD], "wet", 2), ([1, THIRD], "dry", 4)])
        good = [(0, 1), (HALF, HALF), (1, 0)]
        led(record, "ann", good)
        wrong = [
            [], (), good[:2], good[1:], good[:1] + good[2:], good + [(1, 0)], [(0, 1), (0, 1), (HALF, HALF), (1, 0)],
            good[::-1], [good[1], good[0], good[2]], [(0, 1), (HALF, HALF), (HALF, HALF)], [(0, 0), (THIRD, HALF), (1, 0)],
            [(0, 2), *good[1:]], [(0, -1), *good[1:]], [*good[:2], (1, Ratio(-1, 10 ** 12))],
            [*good[:2], (1, Ratio(10 ** 12 + 1, 10 ** 12))], [(0, True), *good[1:]], [(False, 1), *good[1:]],
            [*good[:2], (True, 0)], [*good[:2], (1, False)], [[0, 1], *good[1:]], [*good[:2], [1, 0]], [(0,), *good[1:]],
            [(0, 1, 1), *good[1:]], [(0, None), *good[1:]], [(0, "1"), *good[1:]], [("0", 1), *good[1:]],
            [(0, [1]), *good[1:]], [([0], 1), *good[1:]], [None, *good[1:]], {0: 1, HALF.top: 1}, {}, "0", None, True, 0,
            [(0, deep(900)), *good[1:]], [(THIRD, 0), (HALF, 0)], [(0, {}), *good[1:]], [({}, 0), *good[1:]],
        ]
        for pairs in wrong + odd_values():
            with self.assertRaises(BadPairs) as caught:
                led(record, "ann", pairs)
            self.assertIs(caught.exception.pairs, pairs)

    def test_parts_of_pairs_of_any_kind(self):
        record = Record(["ann"], [([HALF], "wet", 1)])
        for value in odd_values():
            number = isinstance(value, (int, Ratio)) and not isinstance(value, bool)
            self.check_pairs(record, [(HALF, value)], number and 0 <= fraction(value) <= 1)
            self.check_pairs(record, [(value, 1)], number and fraction(value) == Fraction(1, 2))
            self.check_pairs(record, [value], isinstance(value, tuple) and value == (HALF, HALF))

    def check_pairs(self, record, pairs, good):
        if good:
            self.assertTrue(led(record, "ann", pairs) == Record(["ann"], [([pairs[0][1]], "wet", 1)]))
            return
        with self.assertRaises(BadPairs) as caught:
            led(record, "ann", pairs)
        self.assertIs(caught.exception.pairs, pairs)

    def test_what_is_passed_stays(self):
        record = cid()
        text = str(record)
        pairs = [(QUARTER, 0), (HALF, 0), (THREE, 1)]
        kept = list(pairs)
        other = led(record, "cid", pairs)
        self.assertEqual([id(pair) for pair in pairs], [id(pair) for pair in kept])
        pairs[0] = (QUARTER, 1)
        pairs.clear()
        self.assertEqual(str(other).split("\n"), ["people cid", "0 wet 1", "0 dry 3", "1 wet 2"])
        put_right(record, "cid")
        self.assertEqual(str(record), text)


class PutRight(unittest.TestCase):
    def test_shares_in_the_place_of_chances(self):
        for record, days in random_records(54, 100):
            text = str(record)
            for name in record.people():
                right = put_right(record, name)
                self.assertIs(type(right), Record)
                table = dict(expected_shares(days, name))
                self.assertEqual(sorted_days(as_days(right)), sorted_days(days_led(days, name, table)))
                self.assertIs(reliable(right, name), True)
                for other in record.people():
                    if other != name:
                        self.assertTrue(shares(right, other) == shares(record, other))
            self.assertEqual(str(record), text)

    def test_no_function_has_a_loss_below(self):
        news = [Fraction(0), Fraction(1, 3), Fraction(1, 2), Fraction(1)]
        for record, days in random_records(55, 20, people=(1, 2), cells=4):
            said = [chance for chance, _, _ in counted(days, "ann")]
            right = put_right(record, "ann")
            for chosen in product(news, repeat=min(len(said), 3)):
                pairs = [(ratio(chance), ratio(new)) for chance, new in zip(said, [*chosen, chosen[0], chosen[0]])]
                other = led(record, "ann", pairs)
                for bar in bars_near(days):
                    for acts in [True, False]:
                        actor = (ratio(bar), acts)
                        self.assertFalse(loss(other, "ann", actor).below(loss(right, "ann", actor)))

    def test_reliable_people_stay(self):
        record = steady()
        self.assertTrue(put_right(record, "ann") == record)
        self.assertFalse(put_right(record, "bob") == record)


class Parts(unittest.TestCase):
    def expected(self, days, name, losing):
        """The parts, by what is lost on days with other chances."""
        rainy = Fraction(sum(wet for _, wet in days), len(days))
        even = losing([({name: rainy}, wet) for _, wet in days])
        right = losing(days_led(days, name, dict(expected_shares(days, name))))
        return (even, even - right, losing(days) - right)

    def check(self, answer, expected):
        self.assertEqual([type(answer), len(answer)], [tuple, 3])
        self.assertEqual([type(part) for part in answer], [Ratio] * 3)
        self.assertEqual(fractions(answer), expected)
        self.assertEqual([part for part in answer if part.below(0)], [])

    def test_parts_of_losses(self):
        for record, days in random_records(56, 60):
            for name in record.people():
                for bar in bars_near(days):
                    for acts in [True, False]:
                        actor = (ratio(bar), acts)
                        answer = parts(record, name, actor)
                        self.check(answer, self.expected(days, name, lambda rows: lost_on(rows, name, bar, acts)))
                        self.assertTrue(answer[0] - answer[1] + answer[2] == loss(record, name, actor))

    def test_parts_of_scores(self):
        random = Random(57)
        for record, days in random_records(58, 60):
            for name in record.people():
                chosen = [
                    (random.choice(bars_near(days)), random.random() < 0.5, Fraction(random.randint(1, 9), random.randint(1, 3)))
                    for _ in range(random.randint(1, 6))
                ]
                score = [((given(random, bar), acts), given(random, weight)) for bar, acts, weight in chosen]
                expected = self.expected(
                    days, name, lambda rows: sum(weight * lost_on(rows, name, bar, acts) for bar, acts, weight in chosen)
                )
                for passed in [score, tuple(score)]:
                    answer = score_parts(record, name, passed)
                    self.check(answer, expected)
                    self.assertTrue(answer[0] - answer[1] + answer[2] == score_loss(record, name, passed))

    def test_parts_of_squares(self):
        for record, days in random_records(59, 100):
            for name in record.people():
                answer = square_parts(record, name)
                self.check(answer, self.expected(days, name, lambda rows: sum((said[name] - wet) ** 2 for said, wet in rows)))
                self.assertTrue(answer[0] - answer[1] + answer[2] == squares(record, name))

    def test_wrong_is_0_for_reliable_people_alone(self):
        seen = set()
        for record, days in random_records(60, 150, cells=5):
            for name in record.people():
                told = [parts(record, name, (ratio(bar), acts)) for bar in bars_near(days) for acts in [True, False]]
                wrong = all(part == 0 for _, _, part in told)
                self.assertIs(wrong, reliable(record, name))
                self.assertIs(square_parts(record, name)[2] == 0, wrong)
                seen.add(wrong)
        self.assertEqual(seen, {True, False})

    def test_told_is_0_where_all_shares_are_the_same(self):
        seen = set()
        for record, days in random_records(61, 150, cells=5):
            for name in record.people():
                same = len({share for _, share in expected_shares(days, name)}) == 1
                bars = bars_near(days) + [Fraction(sum(wet for _, wet in days), len(days))]
                told = [parts(record, name, (ratio(bar), acts))[1] for bar in bars for acts in [True, False]]
                self.assertIs(square_parts(record, name)[1] == 0, same)
                self.assertIs(all(part == 0 for part in told), same)
                seen.add(same)
        self.assertEqual(seen, {True, False})

    def test_reliable_people(self):
        record = steady()
        for bar in [0, QUARTER, HALF, THREE, 1]:
            for acts in [True, False]:
                self.assertTrue(parts(record, "ann", (bar, acts))[2] == 0)
        self.assertTrue(score_parts(record, "ann", [((HALF, True), 3), ((QUARTER, False), HALF)])[2] == 0)
        self.assertTrue(square_parts(record, "ann")[2] == 0)

    def test_all_shares_the_same(self):
        record = Record(["ann"], [([0], "wet", 1), ([0], "dry", 2), ([HALF], "wet", 2), ([HALF], "dry", 4), ([1], "wet", 3), ([1], "dry", 6)])
        for bar in [0, QUARTER, THIRD, HALF, 1]:
            for acts in [True, False]:
                self.assertTrue(parts(record, "ann", (bar, acts))[1] == 0)
        self.assertTrue(square_parts(record, "ann")[1] == 0)
        self.assertTrue(parts(record, "ann", (HALF, True)) == (3, 0, Ratio(5, 2)))

    def test_no_actors_and_no_scores(self):
        record = cid()
        for value in NO_ACTORS + odd_values():
            with self.assertRaises(BadActor) as caught:
                parts(record, "cid", value)
            self.assertIs(caught.exception.actor, value)
        for value in NO_SCORES + odd_values():
            with self.assertRaises(BadScore) as caught:
                score_parts(record, "cid", value)
            self.assertIs(caught.exception.score, value)


class Callers(unittest.TestCase):
    def test_by_name(self):
        record = cid()
        self.assertTrue(shares(name="cid", record=record) == [(QUARTER, HALF), (HALF, 0), (THREE, 1)])
        self.assertIs(reliable(name="cid", record=record), False)
        self.assertTrue(unreliable(name="cid", record=record) == [QUARTER, HALF, THREE])
        self.assertTrue(led(pairs=shares(record, "cid"), name="cid", record=record) == put_right(name="cid", record=record))
        self.assertTrue(parts(actor=(HALF, True), name="cid", record=record) == (Ratio(3, 2), 1, 1))
        self.assertTrue(score_parts(score=[((HALF, True), 2)], name="cid", record=record) == (3, 2, 2))
        self.assertTrue(square_parts(name="cid", record=record) == (Ratio(3, 2), 1, THREE))

    def test_lists_that_the_caller_changes(self):
        record = cid()
        for question in [shares, unreliable]:
            first = question(record, "cid")
            kept = list(first)
            first.clear()
            self.assertTrue(question(record, "cid") == kept)


if __name__ == "__main__":
    unittest.main()
