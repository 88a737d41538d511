"""Points 30 to 34: who is never worse, for which actors somebody is, and the stretches of bars in between."""

import unittest
from fractions import Fraction
from itertools import product

from saidchances.actors import is_actor, loss
from saidchances.compared import (
    alike, best_stretches, is_worse_actor, never_best, never_worse, stretches, worse_actor,
)
from saidchances.ratios import Ratio
from saidchances.records import Record
from tests.days import bars_near, counted, fraction, fractions, lost_on, random_records, ratio
from tests.test_actors import NO_ACTORS
from tests.values import odd_values

HALF, QUARTER, THREE = Ratio(1, 2), Ratio(1, 4), Ratio(3, 4)
# Far closer to the ends of a stretch than any other bar of the small records of these tests.
NEAR = Fraction(1, 10 ** 9)


def pairs_of(record):
    return product(record.people(), repeat=2)


def record_of(*rows):
    """A record of ann and bob, by rows (chance of ann, chance of bob, wet, dry)."""
    lines = []
    for one, other, wet, dry in rows:
        lines += [([one, other], "wet", wet)] * (wet > 0) + [([one, other], "dry", dry)] * (dry > 0)
    return Record(["ann", "bob"], lines)


def points_in(days, low, high):
    """Bars between two bars that are no chances said: by the ends, by each chance said, and in between."""
    said = {chance for row, _ in days for chance in row.values()}
    ends = sorted({low, high} | {chance for chance in said if low < chance < high})
    return [
        one + (other - one) * part for one, other in zip(ends, ends[1:]) for part in [NEAR, Fraction(2, 5), 1 - NEAR]
    ]


class Worse(unittest.TestCase):
    def test_for_all_actors(self):
        seen = set()
        for record, days in random_records(40, 150, people=(2, 3), cells=5):
            for one, other in pairs_of(record):
                worse = [
                    (bar, acts) for bar in bars_near(days) for acts in [True, False]
                    if lost_on(days, one, bar, acts) > lost_on(days, other, bar, acts)
                ]
                self.assertIs(never_worse(record, one, other), worse == [])
                self.check_actor(record, days, one, other, worse == [])
                seen.add((one == other, worse == []))
        self.assertEqual(seen, {(True, True), (False, True), (False, False)})

    def check_actor(self, record, days, one, other, never):
        actor = worse_actor(record, one, other)
        if never:
            self.assertIsNone(actor)
            return
        self.assertTrue(is_actor(actor))
        self.assertEqual([type(actor), type(actor[0]), type(actor[1])], [tuple, Ratio, bool])
        bar, acts = fractions(actor)
        self.assertGreater(lost_on(days, one, bar, acts), lost_on(days, other, bar, acts))

    def test_judged_actors(self):
        for record, days in random_records(41, 60, people=(2, 3), cells=5):
            for one, other in pairs_of(record):
                for bar in bars_near(days):
                    for acts in [True, False]:
                        expected = lost_on(days, one, bar, acts) > lost_on(days, other, bar, acts)
                        self.assertIs(is_worse_actor(record, one, other, (ratio(bar), acts)), expected)

    def test_at_0_at_1_and_at_chances_said(self):
        for record, worse in [
            (record_of((0, HALF, 1, 1)), [(0, False), (QUARTER, True), (QUARTER, False)]),
            (record_of((1, HALF, 1, 1)), [(THREE, True), (THREE, False), (1, True)]),
            (record_of((THREE, HALF, 0, 1), (HALF, THREE, 0, 1), (THREE, THREE, 0, 1), (THREE, THREE, 1, 0)), []),
            (record_of((QUARTER, HALF, 1, 0)), [(QUARTER, False), (HALF, True)]),
            (record_of((THREE, HALF, 0, 1)), [(HALF, False), (THREE, True)]),
        ]:
            found = [
                (bar, acts) for bar in [0, QUARTER, HALF, THREE, 1] for acts in [True, False]
                if is_worse_actor(record, "ann", "bob", (bar, acts))
            ]
            self.assertTrue(found == worse)
            self.assertIs(never_worse(record, "ann", "bob"), worse == [])
            self.assertIs(worse_actor(record, "ann", "bob") is None, worse == [])

    def test_between_the_chances_said(self):
        record = record_of((QUARTER, THREE, 1, 1))
        for bar, expected in [(Ratio(1, 3), True), (HALF, False), (Ratio(2, 3), False), (Ratio(1, 5), False)]:
            self.assertIs(is_worse_actor(record, "ann", "bob", (bar, True)), expected)
            self.assertIs(is_worse_actor(record, "bob", "ann", (bar, True)), bar == Ratio(2, 3))

    def test_values_that_are_no_actors(self):
        record = record_of((QUARTER, HALF, 1, 0))
        for value in NO_ACTORS + odd_values() + [None, [QUARTER, False], (QUARTER, 0), (HALF, 1)]:
            self.assertIs(is_worse_actor(record, "ann", "bob", value), False)

    def test_the_same_name_twice(self):
        record = record_of((0, HALF, 1, 2), (1, QUARTER, 3, 1))
        for name in ["ann", "bob"]:
            self.assertIs(never_worse(record, name, name), True)
            self.assertIsNone(worse_actor(record, name, name))
            self.assertIs(is_worse_actor(record, name, name, (HALF, True)), False)
            self.assertIs(alike(record, name, name), True)
            self.assertTrue(stretches(record, name, name) == [(0, 1, "alike")])

    def test_scores_follow(self):
        for record, days in random_records(42, 60, people=(2, 3), cells=4):
            for one, other in pairs_of(record):
                if never_worse(record, one, other):
                    for bar in bars_near(days):
                        self.assertFalse(loss(record, other, (ratio(bar), True)).below(loss(record, one, (ratio(bar), True))))


class Alike(unittest.TestCase):
    def test_same_losses_for_all_actors(self):
        seen = set()
        for record, days in random_records(43, 200, people=(2, 3), cells=4):
            for one, other in pairs_of(record):
                same = all(
                    lost_on(days, one, bar, acts) == lost_on(days, other, bar, acts)
                    for bar in bars_near(days) for acts in [True, False]
                )
                self.assertIs(alike(record, one, other), same)
                self.assertIs(same, counted(days, one) == counted(days, other))
                seen.add((one == other, same))
        self.assertEqual(seen, {(True, True), (False, True), (False, False)})

    def test_chances_said_as_often(self):
        for record, same in [
            (record_of((0, HALF, 1, 1), (HALF, 0, 1, 1)), True), (record_of((0, HALF, 1, 0), (HALF, 0, 0, 1)), False),
            (record_of((0, HALF, 2, 1), (HALF, 0, 1, 1)), False), (record_of((0, HALF, 1, 2), (HALF, 0, 1, 1)), False),
            (record_of((0, HALF, 1, 1), (HALF, QUARTER, 1, 1), (QUARTER, 0, 1, 1)), True),
            (record_of((0, HALF, 1, 1), (HALF, 0, 1, 1), (0, 0, 3, 0), (HALF, HALF, 0, 2)), True),
        ]:
            self.assertIs(alike(record, "ann", "bob"), same)
            self.assertIs(alike(record, "bob", "ann"), same)
            self.assertIs(never_worse(record, "ann", "bob") and never_worse(record, "bob", "ann"), same)


class Stretches(unittest.TestCase):
    def check_form(self, found):
        """Stretches from 0 to 1, one behind the other, no two neighbours alike."""
        self.assertIs(type(found), list)
        for row in found:
            self.assertEqual([type(row), len(row), type(row[0]), type(row[1])], [tuple, 3, Ratio, Ratio])
            self.assertTrue(row[0].below(row[1]))
        self.assertTrue(found[0][0] == 0)
        self.assertTrue(found[-1][1] == 1)
        for one, other in zip(found, found[1:]):
            self.assertTrue(one[1] == other[0])
            self.assertNotEqual(one[2], other[2])

    def test_words_within_the_stretches(self):
        seen = set()
        for record, days in random_records(44, 120, people=(2, 3), cells=6):
            for one, other in pairs_of(record):
                found = stretches(record, one, other)
                self.check_form(found)
                for low, high, word in found:
                    for bar in points_in(days, fraction(low), fraction(high)):
                        mine, theirs = lost_on(days, one, bar, True), lost_on(days, other, bar, True)
                        self.assertEqual(word, "better" if mine < theirs else "worse" if mine > theirs else "alike")
                    seen.add(word)
        self.assertEqual(seen, {"better", "worse", "alike"})

    def test_turned_round(self):
        turned = {"better": "worse", "worse": "better", "alike": "alike"}
        for record, _ in random_records(45, 60, people=(2, 3), cells=6):
            for one, other in pairs_of(record):
                back = [(low, high, turned[word]) for low, high, word in stretches(record, other, one)]
                self.assertTrue(stretches(record, one, other) == back)

    def check(self, record, expected):
        self.check_form(stretches(record, "ann", "bob"))
        self.assertTrue(stretches(record, "ann", "bob") == expected)

    def test_lines_that_cross_between_chances(self):
        self.check(
            record_of((QUARTER, THREE, 1, 1)),
            [(0, QUARTER, "alike"), (QUARTER, HALF, "worse"), (HALF, THREE, "better"), (THREE, 1, "alike")],
        )
        self.check(record_of((0, 1, 1, 1)), [(0, HALF, "worse"), (HALF, 1, "better")])
        self.check(record_of((1, 0, 1, 3)), [(0, QUARTER, "better"), (QUARTER, 1, "worse")])
        self.check(
            record_of((QUARTER, THREE, 3, 2)),
            [(0, QUARTER, "alike"), (QUARTER, Ratio(3, 5), "worse"), (Ratio(3, 5), THREE, "better"), (THREE, 1, "alike")],
        )

    def test_lines_that_meet_at_a_chance(self):
        self.check(
            record_of((QUARTER, THREE, 1, 3)),
            [(0, QUARTER, "alike"), (QUARTER, THREE, "better"), (THREE, 1, "alike")],
        )
        self.check(
            record_of((QUARTER, THREE, 3, 1)),
            [(0, QUARTER, "alike"), (QUARTER, THREE, "worse"), (THREE, 1, "alike")],
        )

    def test_stretches_over_chances_said(self):
        self.check(
            record_of((QUARTER, THREE, 0, 1), (HALF, HALF, 2, 5)),
            [(0, QUARTER, "alike"), (QUARTER, THREE, "better"), (THREE, 1, "alike")],
        )
        self.check(record_of((0, HALF, 0, 1), (HALF, 1, 0, 1)), [(0, 1, "better")])
        self.check(record_of((HALF, HALF, 1, 1)), [(0, 1, "alike")])
        self.check(
            record_of((QUARTER, HALF, 0, 1), (THREE, HALF, 1, 0)),
            [(0, QUARTER, "alike"), (QUARTER, THREE, "better"), (THREE, 1, "alike")],
        )

    def test_unlike_words_on_both_sides_of_a_chance(self):
        self.check(
            record_of((QUARTER, HALF, 0, 1), (HALF, THREE, 1, 0)),
            [(0, QUARTER, "alike"), (QUARTER, HALF, "better"), (HALF, THREE, "worse"), (THREE, 1, "alike")],
        )

    def test_best_within_the_stretches(self):
        counts = set()
        for record, days in random_records(46, 150, cells=7):
            found = best_stretches(record)
            self.check_form(found)
            for low, high, names in found:
                self.assertIs(type(names), list)
                for bar in points_in(days, fraction(low), fraction(high)):
                    losses = {name: lost_on(days, name, bar, True) for name in record.people()}
                    self.assertEqual(names, [name for name in sorted(losses) if losses[name] == min(losses.values())])
                counts.add(len(names))
            for name in record.people():
                self.assertIs(never_best(record, name), all(name not in names for _, _, names in found))
        self.assertEqual(counts, {1, 2, 3})

    def test_best_of_three(self):
        record = Record(["cid", "bob", "ann"], [([HALF, 1, 0], "wet", 1), ([HALF, 1, 0], "dry", 1)])
        self.assertTrue(best_stretches(record) == [(0, HALF, ["bob", "cid"]), (HALF, 1, ["ann", "cid"])])
        record = Record(["cid", "bob", "ann"], [([0, 1, 0], "wet", 1), ([0, 1, 0], "dry", 1)])
        self.assertTrue(best_stretches(record) == [(0, HALF, ["bob"]), (HALF, 1, ["ann", "cid"])])
        for name in ["ann", "bob", "cid"]:
            self.assertIs(never_best(record, name), False)

    def test_the_best_cross_where_others_do_not(self):
        lines = [([QUARTER, THREE, 0], "wet", 1), ([QUARTER, THREE, 1], "dry", 1)]
        record = Record(["ann", "bob", "cid"], lines)
        self.assertTrue(best_stretches(record) == [
            (0, QUARTER, ["ann", "bob"]), (QUARTER, HALF, ["bob"]), (HALF, THREE, ["ann"]), (THREE, 1, ["ann", "bob"]),
        ])
        self.assertIs(never_best(record, "cid"), True)
        self.assertIs(never_best(record, "ann"), False)

    def test_others_cross_where_the_best_does_not(self):
        lines = [([1, QUARTER, THREE], "wet", 1), ([0, QUARTER, THREE], "dry", 1)]
        record = Record(["ann", "bob", "cid"], lines)
        self.assertTrue(best_stretches(record) == [(0, 1, ["ann"])])
        self.assertIs(never_best(record, "bob"), True)
        self.assertIs(never_best(record, "cid"), True)

    def test_one_person(self):
        record = Record(["ann"], [([HALF], "wet", 1), ([0], "dry", 1)])
        self.assertTrue(best_stretches(record) == [(0, 1, ["ann"])])
        self.assertIs(never_best(record, "ann"), False)

    def test_who_is_never_worse_is_named_too(self):
        seen = 0
        for record, _ in random_records(47, 150, people=(2, 3), cells=4):
            for one, other in pairs_of(record):
                if never_worse(record, one, other) and not alike(record, one, other):
                    for _, _, names in best_stretches(record):
                        self.assertTrue(other not in names or one in names)
                    seen += 1
        self.assertGreater(seen, 20)


class Callers(unittest.TestCase):
    def test_by_name(self):
        record = record_of((0, 1, 1, 1))
        self.assertIs(never_worse(other="bob", one="ann", record=record), False)
        self.assertIsNotNone(worse_actor(other="bob", one="ann", record=record))
        self.assertIs(is_worse_actor(value=None, other="bob", one="ann", record=record), False)
        self.assertIs(alike(other="bob", one="ann", record=record), False)
        self.assertEqual(len(stretches(other="bob", one="ann", record=record)), 2)
        self.assertEqual(len(best_stretches(record=record)), 2)
        self.assertIs(never_best(name="bob", record=record), False)

    def test_lists_that_the_caller_changes(self):
        record = record_of((0, 1, 1, 1))
        for question in [lambda: stretches(record, "ann", "bob"), lambda: best_stretches(record)]:
            first = question()
            kept = list(first)
            first.clear()
            self.assertTrue(question() == kept)
        for _, _, names in best_stretches(record):
            names.append("eve")
        self.assertEqual([names for _, _, names in best_stretches(record)], [["bob"], ["ann"]])

    def test_names_of_one_answer_are_lists_of_their_own(self):
        found = best_stretches(Record(["ann", "bob", "cid"], [([0, 0, 1], "wet", 1), ([0, 0, QUARTER], "dry", 1)]))
        self.assertEqual(len({id(names) for _, _, names in found}), len(found))

    def test_equal_records(self):
        rows = [([QUARTER, 0], "wet", 2), ([0, THREE], "dry", 3), ([1, 1], "wet", 1), ([1, 1], "dry", 1)]
        one = Record(["ann", "bob"], rows)
        other = Record(("bob", "ann"), [((right, left), weather, days) for (left, right), weather, days in rows[::-1]])
        for first, second in pairs_of(one):
            self.assertTrue(worse_actor(one, first, second) == worse_actor(other, first, second))
            self.assertTrue(stretches(one, first, second) == stretches(other, first, second))
        self.assertTrue(best_stretches(one) == best_stretches(other))


if __name__ == "__main__":
    unittest.main()
