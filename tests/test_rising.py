"""Points 39 to 42: rising functions, blocks, the best rising function, and cuts."""

import unittest
from fractions import Fraction
from itertools import combinations, combinations_with_replacement
from random import Random

from saidchances.actors import is_actor, loss
from saidchances.errors import BadActor
from saidchances.ratios import Ratio
from saidchances.records import Record
from saidchances.righted import led, put_right, reliable
from saidchances.rising import best_cut, blocks, is_blocks, is_rising, order_part, risen
from tests.days import (
    acted, as_days, bars_near, counted, day_loss, fraction, fractions, given, lost_on, random_records, ratio,
)
from tests.test_actors import NO_ACTORS
from tests.test_righted import cid, days_led, expected_shares, sorted_days
from tests.values import deep, odd_values

HALF, THIRD, QUARTER, THREE = Ratio(1, 2), Ratio(1, 3), Ratio(1, 4), Ratio(3, 4)


def cuttings(rows):
    """All ways of cutting a list into neighbouring lists."""
    for many in range(len(rows)):
        for ends in combinations(range(1, len(rows)), many):
            marks = [0, *ends, len(rows)]
            yield [rows[low:high] for low, high in zip(marks, marks[1:])]


def share(rows):
    wet = sum(row[1] for row in rows)
    return Fraction(wet, wet + sum(row[2] for row in rows))


def are_blocks(lots):
    """Whether lists of rows are blocks, by the words of point 40."""
    rising = all(share(one) < share(other) for one, other in zip(lots, lots[1:]))
    return rising and all(share(lot[:many]) >= share(lot) for lot in lots for many in range(1, len(lot) + 1))


def expected_blocks(days, name):
    found = [lots for lots in cuttings(counted(days, name)) if are_blocks(lots)]
    assert len(found) == 1
    return [([row[0] for row in lot], share(lot)) for lot in found[0]]


def one_person(*rows):
    """A record of one person, by rows (chance, wet days, dry days)."""
    lines = [([chance], "wet", wet) for chance, wet, _ in rows if wet] + [([chance], "dry", dry) for chance, _, dry in rows if dry]
    return Record(["cid"], lines)


class Rising(unittest.TestCase):
    def test_lists_that_rise(self):
        for value in [
            [(0, 0)], [(1, 0)], ((1, 1),), [(0, 1), (1, 1)], [(0, 0), (HALF, 0), (1, 0)], [(THIRD, 0), (HALF, 1)],
            ((0, QUARTER), (QUARTER, QUARTER), (THREE, HALF), (1, 1)), [(0, 0), (Ratio(1, 10 ** 12), Ratio(1, 10 ** 12))],
            [(Ratio(0), Ratio(1)), (Ratio(1), 1)],
        ]:
            self.assertIs(is_rising(value), True)

    def test_lists_near_rising_ones(self):
        good = [(0, QUARTER), (HALF, HALF), (1, THREE)]
        for value in [
            [], (), good[::-1], [good[1], good[0], good[2]], [good[0], good[2], good[1]], [good[0], good[0]],
            [(0, QUARTER), (0, HALF)], [(HALF, QUARTER), (HALF, QUARTER)], [(0, HALF), (HALF, QUARTER)],
            [(0, 0), (HALF, 1), (1, THREE)], [(0, HALF), (HALF, QUARTER), (1, 1)], [(0, 1), (1, Ratio(10 ** 12 - 1, 10 ** 12))],
            [list(row) for row in good], [good[0], list(good[1])], [(0,)], [(0, 1, 1)], [()], [0, 1], (0, 1), [(0, 2)],
            [(0, -1)], [(2, 1)], [(-1, 0)], [(0, Ratio(13, 12))], [(True, 1)], [(0, True)], [(False, 0)], [(0, None)],
            [("0", 0)], [(0, "1")], [([0], 0)], [(0, [0])], [((0,), 0)], {0: 1}, {}, [{}], [good], {(0, 1): (0, 1)},
            "0", [(0, deep(900))], [good[0], None], [good[0], "ab"], [(0, 1), 1],
        ]:
            self.assertIs(is_rising(value), False, value)

    def test_any_values(self):
        for value in odd_values():
            self.assertIs(is_rising(value), False)
            self.assertIs(is_rising([value]), isinstance(value, tuple) and value == (HALF, HALF))
            number = isinstance(value, (int, Ratio)) and not isinstance(value, bool)
            chance = number and 0 <= fraction(value) <= 1
            self.assertIs(is_rising([(value, HALF)]), chance)
            self.assertIs(is_rising([(HALF, value)]), chance)
            self.assertIs(is_rising([(0, 0), (1, value)]), chance)
            self.assertIs(is_rising([(0, 1), (1, value)]), chance and value == 1)

    def test_drawn_lists(self):
        random = Random(70)
        seen = set()
        for _ in range(400):
            pairs = [(Fraction(random.randint(0, 4), 4), Fraction(random.randint(0, 3), 3)) for _ in range(random.randint(1, 4))]
            pairs = sorted(pairs) if random.random() < 0.6 else pairs
            expected = all(one[0] < other[0] and one[1] <= other[1] for one, other in zip(pairs, pairs[1:]))
            self.assertIs(is_rising([(given(random, one), given(random, other)) for one, other in pairs]), expected)
            seen.add((len(pairs), expected))
        self.assertEqual(len(seen), 7)


class Blocks(unittest.TestCase):
    def test_against_all_ways_of_cutting(self):
        counts = set()
        for record, days in random_records(71, 200, cells=10):
            for name in record.people():
                expected = expected_blocks(days, name)
                found = blocks(record, name)
                self.assertEqual(fractions(found), expected)
                self.assertIs(type(found), list)
                for row in found:
                    self.assertEqual([type(row), type(row[0]), type(row[1])], [tuple, list, Ratio])
                    self.assertEqual({type(chance) for chance in row[0]}, {Ratio})
                self.assertIs(is_blocks(record, name, found), True)
                counts.add((len(found), sum(len(row[0]) for row in found)))
        self.assertGreater(len(counts), 9)

    def test_just_one_list_is_judged_right(self):
        for record, days in random_records(72, 60, cells=8):
            name = record.people()[0]
            rows = counted(days, name)
            right = [
                lots for lots in cuttings(rows)
                if is_blocks(record, name, [([ratio(row[0]) for row in lot], ratio(share(lot))) for lot in lots])
            ]
            self.assertEqual([[([row[0] for row in lot], share(lot)) for lot in lots] for lots in right], [expected_blocks(days, name)])

    def check(self, rows, expected):
        record = one_person(*rows)
        self.assertTrue(blocks(record, "cid") == expected)
        self.assertIs(is_blocks(record, "cid", expected), True)

    def test_blocks_of_one_chance(self):
        self.check([(0, 0, 2), (HALF, 1, 1), (1, 3, 0)], [([0], 0), ([HALF], HALF), ([1], 1)])
        self.check([(HALF, 0, 2)], [([HALF], 0)])

    def test_a_block_of_all_chances(self):
        self.check([(0, 2, 0), (HALF, 1, 1), (1, 0, 2)], [([0, HALF, 1], HALF)])
        self.check([(0, 0, 1), (HALF, 0, 4), (1, 0, 2)], [([0, HALF, 1], 0)])
        self.check([(0, 3, 0), (1, 1, 0)], [([0, 1], 1)])

    def test_neighbours_with_equal_shares(self):
        self.check([(0, 1, 1), (HALF, 2, 2), (1, 3, 0)], [([0, HALF], HALF), ([1], 1)])
        self.check([(0, 0, 1), (HALF, 2, 2), (1, 1, 1)], [([0], 0), ([HALF, 1], HALF)])
        # Two blocks that come to the same share only once they are put together.
        self.check([(0, 1, 2), (QUARTER, 2, 1), (HALF, 0, 3), (1, 1, 0)], [([0, QUARTER, HALF], THIRD), ([1], 1)])
        self.check([(0, 1, 1), (QUARTER, 2, 1), (HALF, 1, 2), (1, 9, 1)], [([0, QUARTER, HALF], HALF), ([1], Ratio(9, 10))])

    def test_a_late_fall_that_takes_all_before(self):
        self.check([(0, 1, 3), (QUARTER, 1, 2), (HALF, 1, 1), (1, 0, 30)], [([0, QUARTER, HALF, 1], Ratio(1, 13))])

    def test_values_near_the_blocks(self):
        record = cid()
        quarter, half, three = QUARTER, HALF, THREE
        for value in [
            [([quarter, half], quarter), ([three], 1)], (((quarter, half), quarter), ((three,), Ratio(1))),
            [((quarter, half), quarter), ([three], 1)],
        ]:
            self.assertIs(is_blocks(record, "cid", value), True)
        for value in [
            [([quarter], quarter), ([half, three], 1)], [([quarter], half), ([half], 0), ([three], 1)],
            [([quarter, half, three], half)], [([half, quarter], quarter), ([three], 1)],
            [([quarter, half], half), ([three], 1)], [([quarter, half], quarter), ([three], True)],
            [([quarter, three], quarter), ([three], 1)],
            [([quarter, half], quarter), ([three], 0)], [([quarter, half], quarter)], [([three], 1)], [],
            [([three], 1), ([quarter, half], quarter)], [[[quarter, half], quarter], [[three], 1]],
            [([quarter, half], quarter), [[three], 1]], [([quarter, half], quarter), ([three], 1), ([], 1)],
            [([quarter, half], quarter, 0), ([three], 1)], [([quarter, half],), ([three], 1)],
            [([quarter, half, half], quarter), ([three], 1)], [([quarter], quarter), ([three], 1)],
            [([quarter, half], quarter), (three, 1)], [([quarter, half], quarter), ({}, 1)],
            [([quarter, half], quarter), ([three], "1")], [([quarter, half], quarter), ([None], 1)],
            [([quarter, half], quarter), ([[three]], 1)], [([quarter, half], quarter), ("3", 1)],
            {0: ([quarter, half], quarter), 1: ([three], 1)}, [([quarter, half], quarter), None], deep(900),
        ] + odd_values():
            self.assertIs(is_blocks(record, "cid", value), False)

    def test_whole_shares_and_chances(self):
        record = one_person((0, 0, 2), (1, 3, 0))
        self.assertIs(is_blocks(record, "cid", [([0], 0), ([1], 1)]), True)
        self.assertIs(is_blocks(record, "cid", [([False], 0), ([1], 1)]), False)
        self.assertIs(is_blocks(record, "cid", [([0], 0), ([True], 1)]), False)
        self.assertIs(is_blocks(record, "cid", [([0], False), ([1], 1)]), False)

    def test_parts_of_any_kind(self):
        record = one_person((0, 0, 2), (HALF, 3, 3))
        for value in odd_values():
            self.assertIs(is_blocks(record, "cid", [([0], 0), value]), False)
            self.assertIs(is_blocks(record, "cid", [([0], 0), ([HALF], value)]), isinstance(value, Ratio) and value == HALF)
            self.assertIs(is_blocks(record, "cid", [([0], 0), ([value], HALF)]), isinstance(value, Ratio) and value == HALF)
            listed = isinstance(value, (list, tuple)) and len(value) == 1 and isinstance(value[0], Ratio)
            self.assertIs(is_blocks(record, "cid", [([0], 0), (value, HALF)]), listed)


class Risen(unittest.TestCase):
    def test_shares_of_the_blocks(self):
        for record, days in random_records(73, 100, cells=10):
            text = str(record)
            for name in record.people():
                table = {chance: number for chances, number in expected_blocks(days, name) for chance in chances}
                other = risen(record, name)
                self.assertIs(type(other), Record)
                self.assertEqual(other.people(), record.people())
                self.assertEqual(sorted_days(as_days(other)), sorted_days(days_led(days, name, table)))
                self.assertIs(reliable(other, name), True)
                self.assertTrue(risen(other, name) == other)
                self.assertTrue(put_right(other, name) == other)
                self.assertEqual([len(chances) for chances, _ in blocks(other, name)], [1] * len(blocks(record, name)))
            self.assertEqual(str(record), text)

    def test_no_rising_function_has_a_loss_below(self):
        random = Random(74)
        for record, days in random_records(75, 60, people=(1, 2), cells=8):
            said = [chance for chance, _, _ in counted(days, "ann")]
            best = as_days(risen(record, "ann"))
            ends = sorted({Fraction(0), Fraction(1)} | {number for _, number in expected_blocks(days, "ann")})
            grid = sorted(set(ends + [(low + high) / 2 for low, high in zip(ends, ends[1:])] + said))
            ways = list(combinations_with_replacement(grid, len(said)))
            for news in random.sample(ways, min(len(ways), 12)):
                pairs = [(ratio(chance), ratio(new)) for chance, new in zip(said, news)]
                self.assertIs(is_rising(pairs), True)
                other = as_days(led(record, "ann", pairs))
                bars = sorted(set(grid) | set(news))
                bars += [(low + high) / 2 for low, high in zip(bars, bars[1:])]
                margins = [
                    lost_on(other, "ann", bar, acts) - lost_on(best, "ann", bar, acts) for bar in bars for acts in [True, False]
                ]
                self.assertGreaterEqual(min(margins), 0)
                same = sorted_days(other) == sorted_days(best)
                self.assertIs(max(margins) == 0, same)

    def test_losses_of_the_risen_record(self):
        for record, days in random_records(76, 40, cells=8):
            name = record.people()[-1]
            table = {chance: number for chances, number in expected_blocks(days, name) for chance in chances}
            other, expected = risen(record, name), days_led(days, name, table)
            for bar in bars_near(expected):
                for acts in [True, False]:
                    self.assertEqual(fraction(loss(other, name, (ratio(bar), acts))), lost_on(expected, name, bar, acts))


def lost_by_cut(days, name, bar, cut):
    """What is lost by a bar, if another actor tells when to act."""
    return sum(
        (bar if not wet else 0) if acted(said[name], *cut) else (1 - bar if wet else Fraction(0)) for said, wet in days
    )


def all_cuts(days, name):
    return [(bar, acts) for bar in bars_near(days) for acts in [True, False]]


class Cuts(unittest.TestCase):
    def test_against_all_cuts(self):
        for record, days in random_records(77, 70, cells=8):
            for name in record.people():
                shared = days_led(days, name, dict(expected_shares(days, name)))
                best = as_days(risen(record, name))
                bars = sorted(set(bars_near(days)) | {number for _, number in expected_blocks(days, name)})
                for bar in bars:
                    fewest = min(lost_by_cut(days, name, bar, cut) for cut in all_cuts(days, name))
                    for acts in [True, False]:
                        answer = best_cut(record, name, (ratio(bar), acts))
                        self.check_cut(answer, days, name, bar, fewest)
                        self.assertEqual(lost_on(best, name, bar, acts), fewest)
                        part = order_part(record, name, (ratio(bar), acts))
                        self.assertIs(type(part), Ratio)
                        self.assertEqual(fraction(part), fewest - lost_on(shared, name, bar, acts))
                        self.assertGreaterEqual(fraction(part), 0)

    def check_cut(self, answer, days, name, bar, fewest):
        self.assertEqual([type(answer), len(answer), type(answer[0])], [tuple, 2, Ratio])
        self.assertIs(is_actor(answer[1]), True)
        self.assertIs(type(answer[1][0]), Ratio)
        self.assertEqual(fraction(answer[0]), fewest)
        self.assertEqual(lost_by_cut(days, name, bar, fractions(answer[1])), fewest)

    def test_the_cut_is_another_actor(self):
        # All greater chances came on dry days, so it is best to act always, or never.
        record = one_person((QUARTER, 3, 0), (THREE, 0, 2))
        for acts in [True, False]:
            number, cut = best_cut(record, "cid", (HALF, acts))
            self.assertTrue(number == 1)
            self.assertTrue(acted(Fraction(1, 4), *fractions(cut)))
            self.assertTrue(acted(Fraction(3, 4), *fractions(cut)))
            number, cut = best_cut(record, "cid", (Ratio(9, 10), acts))
            self.assertTrue(number == Ratio(3, 10))
            self.assertFalse(acted(Fraction(3, 4), *fractions(cut)))
            self.assertTrue(order_part(record, "cid", (HALF, acts)) == 1)
            self.assertTrue(order_part(record, "cid", (Ratio(9, 10), acts)) == Ratio(3, 10))

    def test_never_acting_on_the_chance_1(self):
        record = one_person((1, 0, 2), (0, 0, 1))
        number, cut = best_cut(record, "cid", (HALF, True))
        self.assertTrue(number == 0)
        self.assertFalse(acted(Fraction(1), *fractions(cut)))

    def test_bars_0_and_1(self):
        for record, days in random_records(78, 30):
            for bar in [0, 1]:
                for acts in [True, False]:
                    self.assertTrue(best_cut(record, "ann", (bar, acts))[0] == 0)
                    self.assertTrue(order_part(record, "ann", (bar, acts)) == 0)

    def test_integers_and_ratios(self):
        record = one_person((0, 0, 2), (1, 1, 3))
        for one, other in [(0, Ratio(0)), (1, Ratio(1))]:
            self.assertTrue(best_cut(record, "cid", (one, True)) == best_cut(record, "cid", (other, True)))

    def test_no_actors(self):
        record = cid()
        for function in [best_cut, order_part]:
            for value in NO_ACTORS + odd_values():
                with self.assertRaises(BadActor) as caught:
                    function(record, "cid", value)
                self.assertIs(caught.exception.actor, value)

    def test_day_by_day(self):
        # The model of this file agrees with that of the other ones where the cut is the actor.
        days = [({"ann": Fraction(1, 2)}, True), ({"ann": Fraction(1, 3)}, False)]
        for bar in [Fraction(1, 3), Fraction(1, 2)]:
            self.assertEqual(
                lost_by_cut(days, "ann", bar, (bar, True)),
                sum(day_loss(said["ann"], wet, bar, True) for said, wet in days),
            )


class Callers(unittest.TestCase):
    def test_by_name(self):
        record = cid()
        self.assertIs(is_rising(value=[(0, 0)]), True)
        self.assertEqual(len(blocks(name="cid", record=record)), 2)
        self.assertIs(is_blocks(value=None, name="cid", record=record), False)
        self.assertTrue(risen(name="cid", record=record) == risen(record, "cid"))
        self.assertTrue(best_cut(actor=(HALF, True), name="cid", record=record)[0] == HALF)
        self.assertTrue(order_part(actor=(HALF, True), name="cid", record=record) == 0)

    def test_lists_that_the_caller_changes(self):
        record = cid()
        kept = blocks(record, "cid")
        found = blocks(record, "cid")
        found[0][0].append(1)
        found[1][0].clear()
        found.pop()
        self.assertTrue(blocks(record, "cid") == kept)
        pairs = [(0, 1), (1, 1)]
        is_rising(pairs)
        self.assertEqual(pairs, [(0, 1), (1, 1)])

    def test_equal_records(self):
        rows = [([QUARTER], "wet", 1), ([QUARTER], "dry", 1), ([HALF], "dry", 2), ([THREE], "wet", 1), ([THREE], "wet", 1)]
        one, other = cid(), Record(("cid",), rows[::-1])
        self.assertTrue(one == other)
        self.assertTrue(blocks(one, "cid") == blocks(other, "cid"))
        for bar in [0, QUARTER, HALF, THREE, 1]:
            self.assertTrue(best_cut(one, "cid", (bar, True)) == best_cut(other, "cid", (bar, True)))

    def test_many_chances(self):
        rows = [(Ratio(at, 10 ** 12 - 1), 10 ** 12 - at * at, 10 ** 11 + at) for at in range(1, 17)]
        record = one_person(*rows)
        self.assertEqual(len(blocks(record, "cid")), 1)
        self.assertTrue(best_cut(record, "cid", (Ratio(1, 10 ** 12), True))[0] == loss(risen(record, "cid"), "cid", (Ratio(1, 10 ** 12), True)))


if __name__ == "__main__":
    unittest.main()
