"""Points 47 to 51: profiles of reliable people, which of two says more, and how chances are passed on."""

import unittest
from fractions import Fraction
from random import Random

from saidchances.actors import is_actor, loss
from saidchances.compared import never_worse
from saidchances.errors import BadActor, BadProfile, NotReliable, UnlikeProfiles
from saidchances.ratios import Ratio
from saidchances.records import Record
from saidchances.righted import put_right, reliable
from saidchances.sharper import (
    common, heights, is_passing, is_profile, joined, loser, passing, profile, profile_loss, says_more,
)
from tests.days import acted, as_days, bars_near, counted, fraction, fractions, given, lost_on, random_records, ratio
from tests.test_actors import NO_ACTORS
from tests.test_righted import cid, steady
from tests.values import deep, odd_values

HALF, THIRD, QUARTER, THREE = Ratio(1, 2), Ratio(1, 3), Ratio(1, 4), Ratio(3, 4)
NO_PROFILES = [
    [], (), [(HALF, 0)], [(HALF, -1)], [(HALF, Ratio(-1, 10 ** 12))], [(HALF, True)], [(True, 1)], [(HALF, None)],
    [(0, 1), (0, 1)], [(HALF, 1), (0, 1)], [(0, 1), (HALF, 1), (HALF, 2)], [(0, 1), (1, 1), (HALF, 1)],
    [(2, 1)], [(-1, 1)], [(0, 1), (Ratio(10 ** 12 + 1, 10 ** 12), 1)], [(Ratio(-1, 10 ** 12), 1)], [[HALF, 1]],
    [(0, 1), [HALF, 1]], [(HALF,)], [(HALF, 1, 1)], [()], [HALF, 1], (HALF, 1), {HALF.top: 1}, {}, [{}], [None],
    [("1/2", 1)], [(HALF, "1")], [([HALF], 1)], [(HALF, [1])], [(HALF, {})], [({}, 1)], [(HALF, deep(900))],
    [(0, 1), None], [(0, 1), "ab"], "0", [[(HALF, 1)]],
]


def table(rows):
    """A profile by its chances, those with no days left out."""
    found = {}
    for chance, days in rows:
        found[chance] = found.get(chance, 0) + days
    return sorted((chance, days) for chance, days in found.items() if days)


def dulled(random, rows):
    """Days of two chances said with their mean."""
    if len(rows) < 2:
        return rows
    (one, many), (other, more) = random.sample(rows, 2)
    part, share = Fraction(random.randint(1, 4), 4), Fraction(random.randint(1, 3), 3)
    mean = (one * many * part + other * more * share) / (many * part + more * share)
    return table(rows + [(one, -many * part), (other, -more * share), (mean, many * part + more * share)])


def sharpened(random, rows):
    """Days of a chance parted in two, with a lesser and a greater one."""
    chance, days = random.choice(rows)
    low, high = chance * Fraction(random.randint(0, 3), 3), 1 - (1 - chance) * Fraction(random.randint(0, 3), 3)
    if low == high:
        return rows
    days = days * Fraction(random.randint(1, 2), 2)
    above = days * (chance - low) / (high - low)
    return table(rows + [(chance, -days), (low, days - above), (high, above)])


def random_profile(random):
    bottom = random.choice([1, 2, 4, 5, 6])
    return table(
        (Fraction(random.randint(0, bottom), bottom), Fraction(random.randint(1, 6), random.randint(1, 2)))
        for _ in range(random.randint(1, 5))
    )


def changed(random, rows, ways, most):
    for _ in range(random.randint(0, most)):
        rows = random.choice(ways)(random, rows)
    return rows


def random_pairs(seed, many):
    """Pairs of profiles with the same sums: duller, sharper, and neither."""
    random = Random(seed)
    for _ in range(many):
        rows = random_profile(random)
        ways = random.choice([[dulled], [sharpened], [dulled, sharpened]])
        yield rows, changed(random, rows, ways, 4)


def passed(random, rows):
    """A profile as a caller may pass it."""
    kind = random.choice([list, tuple])
    return kind((given(random, chance), given(random, days)) for chance, days in rows)


def as_profile(rows):
    return [(ratio(chance), ratio(days)) for chance, days in rows]


def height(rows, bar):
    return sum((chance - bar) * days for chance, days in rows if chance > bar)


def ends(*profiles):
    return sorted({Fraction(0), Fraction(1)} | {chance for rows in profiles for chance, _ in rows})


def between(bars):
    return sorted(bars + [(low + high) / 2 for low, high in zip(bars, bars[1:])])


def lost_by(rows, bar, acts):
    return sum(
        (bar * (1 - chance) if acted(chance, bar, acts) else (1 - bar) * chance) * days for chance, days in rows
    )


def is_at_least(one, other):
    return all(lost_by(one, bar, True) <= lost_by(other, bar, True) for bar in ends(one, other))


def is_right_passing(one, other, rows):
    """Point 49 word for word."""
    pairs = [row[:2] for row in rows]
    if pairs != sorted(set(pairs)) or any(days <= 0 for _, _, days in rows):
        return False
    if table([(chance, days) for chance, _, days in rows]) != one:
        return False
    if table([(told, days) for _, told, days in rows]) != other:
        return False
    return all(sum(row[0] * row[2] for row in rows if row[1] == told) == told * days for told, days in other)


class Profiles(unittest.TestCase):
    def test_lists_that_are_profiles(self):
        for value in [
            [(0, 1)], [(1, Ratio(1, 10 ** 12))], ((HALF, 3),), [(0, 1), (HALF, HALF), (1, 10 ** 12)],
            [(THIRD, 1), (HALF, 1)], ((Ratio(0), Ratio(2)), (Ratio(1), 2)),
        ]:
            self.assertIs(is_profile(value), True)

    def test_lists_near_profiles(self):
        for value in NO_PROFILES:
            self.assertIs(is_profile(value), False, value)

    def test_any_values(self):
        for value in odd_values():
            self.assertIs(is_profile(value), False)
            number = isinstance(value, (int, Ratio)) and not isinstance(value, bool)
            self.assertIs(is_profile([(HALF, value)]), number and fraction(value) > 0)
            self.assertIs(is_profile([(value, 1)]), number and 0 <= fraction(value) <= 1)
            self.assertIs(is_profile([(0, 1), (value, 1)]), number and 0 < fraction(value) <= 1)
            self.assertIs(is_profile([value]), isinstance(value, tuple) and value == (HALF, HALF))

    def test_of_reliable_people(self):
        for record, days in random_records(90, 80):
            for name in record.people():
                right = put_right(record, name)
                found = profile(right, name)
                self.assertIs(is_profile(found), True)
                self.assertIs(type(found), list)
                for row in found:
                    self.assertEqual([type(row), type(row[0]), type(row[1])], [tuple, Ratio, Ratio])
                expected = [(chance, wet + dry) for chance, wet, dry in counted(as_days(right), name)]
                self.assertEqual(fractions(found), expected)
                if not reliable(record, name):
                    with self.assertRaises(NotReliable) as caught:
                        profile(record, name)
                    self.assertIs(caught.exception.name, name)

    def test_who_is_not_reliable(self):
        record = steady()
        self.assertTrue(profile(record, "ann") == [(0, 2), (QUARTER, 4), (THREE, 4), (1, 2)])
        name = "".join(["b", "o", "b"])
        with self.assertRaises(NotReliable) as caught:
            profile(record, name)
        self.assertIs(caught.exception.name, name)

    def test_losses_of_people(self):
        for record, days in random_records(91, 40):
            for name in record.people():
                right = put_right(record, name)
                rows = profile(right, name)
                for bar in bars_near(as_days(right)):
                    for acts in [True, False]:
                        number = profile_loss(rows, (ratio(bar), acts))
                        self.assertIs(type(number), Ratio)
                        self.assertEqual(fraction(number), lost_on(as_days(right), name, bar, acts))
                        self.assertTrue(number == loss(right, name, (ratio(bar), acts)))

    def test_losses_of_any_profiles(self):
        random = Random(92)
        for _ in range(100):
            rows = random_profile(random)
            for bar in between(ends(rows)):
                for acts in [True, False]:
                    number = profile_loss(passed(random, rows), (given(random, bar), acts))
                    self.assertEqual(fraction(number), lost_by(rows, bar, acts))

    def test_profile_ahead_of_actor(self):
        good = [(HALF, 2)]
        for value in NO_PROFILES + odd_values():
            for actor in [(HALF, True), None, {}]:
                with self.assertRaises(BadProfile) as caught:
                    profile_loss(value, actor)
                self.assertIs(caught.exception.profile, value)
        for value in NO_ACTORS + odd_values():
            with self.assertRaises(BadActor) as caught:
                profile_loss(good, value)
            self.assertIs(caught.exception.actor, value)


class More(unittest.TestCase):
    def test_against_losses(self):
        random = Random(93)
        seen = set()
        for one, other in random_pairs(94, 400):
            mine, theirs = passed(random, one), passed(random, other)
            for first, second, given_first, given_second in [(one, other, mine, theirs), (other, one, theirs, mine)]:
                expected = is_at_least(first, second)
                self.assertIs(says_more(given_first, given_second), expected)
                self.check_loser(loser(given_first, given_second), first, second, expected)
            seen.add((is_at_least(one, other), is_at_least(other, one)))
        self.assertEqual(len(seen), 4)

    def check_loser(self, actor, one, other, never):
        if never:
            self.assertIsNone(actor)
            return
        self.assertIs(is_actor(actor), True)
        self.assertIs(type(actor[0]), Ratio)
        bar, acts = fractions(actor)
        self.assertGreater(lost_by(one, bar, acts), lost_by(other, bar, acts))

    def test_duller_and_sharper(self):
        random = Random(95)
        for _ in range(100):
            rows = random_profile(random)
            dull, sharp = changed(random, rows, [dulled], 3), changed(random, rows, [sharpened], 3)
            self.assertIs(says_more(as_profile(rows), as_profile(dull)), True)
            self.assertIs(says_more(as_profile(sharp), as_profile(rows)), True)
            self.assertIs(says_more(as_profile(rows), as_profile(rows)), True)
            self.assertIs(says_more(as_profile(dull), as_profile(rows)), dull == rows)
            self.assertIs(says_more(as_profile(rows), as_profile(sharp)), sharp == rows)

    def test_neither(self):
        one, other = [(0, 1), (HALF, 3)], [(QUARTER, 3), (THREE, 1)]
        self.assertIs(says_more(one, other), False)
        self.assertIs(says_more(other, one), False)
        self.assertTrue(profile_loss(other, loser(one, other)).below(profile_loss(one, loser(one, other))))
        self.assertTrue(profile_loss(one, loser(other, one)).below(profile_loss(other, loser(other, one))))

    def test_people_of_a_record(self):
        seen = set()
        for record, days in random_records(96, 150, people=(2, 3), cells=6):
            one, other = record.people()[:2]
            record = put_right(put_right(record, one), other)
            expected = never_worse(record, one, other)
            self.assertIs(says_more(profile(record, one), profile(record, other)), expected)
            self.assertIs(passing(profile(record, one), profile(record, other)) is not None, expected)
            seen.add(expected)
        self.assertEqual(seen, {True, False})

    def test_each_never_worse_than_the_other(self):
        for one, other in random_pairs(97, 150):
            both = says_more(as_profile(one), as_profile(other)) and says_more(as_profile(other), as_profile(one))
            self.assertIs(both, one == other)


TWO_PROFILES = [says_more, loser, passing, joined, common, lambda one, other: is_passing(one, other, None)]


class Refusals(unittest.TestCase):
    def test_the_first_one_that_is_none(self):
        good = [(HALF, 2)]
        for function in TWO_PROFILES:
            for value in NO_PROFILES + odd_values():
                for one, other in [(value, good), (value, None), (value, [(0, 5)]), (good, value)]:
                    with self.assertRaises(BadProfile) as caught:
                        function(one, other)
                    self.assertIs(caught.exception.profile, value)

    def test_unlike_sums(self):
        one = [(QUARTER, 2), (THREE, 2)]
        for other in [
            [(HALF, 3)], [(HALF, 5)], [(HALF, Ratio(4 * 10 ** 12 + 1, 10 ** 12))], [(0, 2), (1, 3)], [(QUARTER, 4)],
            [(0, 1), (1, 3)], [(0, 3), (1, 1)], [(Ratio(500000000001, 10 ** 12), 4)], [(HALF, 4 * 10 ** 12)],
            [(QUARTER, 8)], [(1, 2)],
        ]:
            for function in TWO_PROFILES:
                for first, second in [(one, other), (other, one)]:
                    with self.assertRaises(UnlikeProfiles):
                        function(first, second)

    def test_heights_of_no_profile(self):
        for value in NO_PROFILES + odd_values():
            for bars in [[], [0, HALF]]:
                with self.assertRaises(BadProfile) as caught:
                    heights(value, bars)
                self.assertIs(caught.exception.profile, value)


class Passings(unittest.TestCase):
    def test_told_passings(self):
        random = Random(98)
        seen = set()
        for one, other in random_pairs(99, 400):
            for first, second in [(one, other), (other, one)]:
                found = passing(passed(random, first), passed(random, second))
                expected = is_at_least(first, second)
                self.assertIs(found is not None, expected)
                if expected:
                    self.check(found, first, second)
                    seen.add(len(found))
        self.assertGreater(len(seen), 6)

    def check(self, found, one, other):
        self.assertIs(type(found), list)
        for row in found:
            self.assertEqual([type(row), *[type(number) for number in row]], [tuple, Ratio, Ratio, Ratio])
        self.assertTrue(is_right_passing(one, other, fractions(found)))
        self.assertIs(is_passing(as_profile(one), as_profile(other), found), True)
        self.assertIs(is_passing(tuple(as_profile(one)), as_profile(other), tuple(found)), True)

    def test_a_profile_to_itself(self):
        rows = [(0, 2), (QUARTER, HALF), (1, 3)]
        self.assertTrue(passing(rows, rows) == [(0, 0, 2), (QUARTER, QUARTER, HALF), (1, 1, 3)])

    def test_values_near_passings(self):
        random = Random(100)
        seen = set()
        for one, other in random_pairs(101, 150):
            rows = fractions(passing(as_profile(one), as_profile(other)) or [])
            for _ in range(6):
                near = self.near(random, rows, one, other)
                value = [tuple(given(random, number) for number in row) for row in near]
                expected = is_right_passing(one, other, near)
                self.assertIs(is_passing(as_profile(one), as_profile(other), value), expected)
                seen.add(expected)
        self.assertEqual(seen, {True, False})

    def near(self, random, rows, one, other):
        """Rows with days moved round a square of two chances of both, which often is another passing, or spoilt."""
        found = dict.fromkeys([row[:2] for row in rows], 0)
        found.update({row[:2]: row[2] for row in rows})
        for _ in range(random.randint(0, 2)):
            first, second = random.choice(one)[0], random.choice(one)[0]
            told, toldtoo = random.choice(other)[0], random.choice(other)[0]
            many = Fraction(random.randint(1, 3), 8)
            for key, more in [((first, told), many), ((second, toldtoo), many), ((first, toldtoo), -many), ((second, told), -many)]:
                found[key] = found.get(key, 0) + more
        if random.random() < 0.1:
            found[(random.choice(one)[0], Fraction(1, 7))] = Fraction(1)
        return [(*key, found[key]) for key in sorted(found) if found[key] != 0]

    def test_several_passings(self):
        one, other = [(0, 2), (HALF, 2), (1, 2)], [(QUARTER, 2), (HALF, 2), (THREE, 2)]
        self.assertIs(is_passing(one, other, passing(one, other)), True)
        part = Ratio(4, 3)
        for value in [
            [(0, QUARTER, 1), (0, HALF, 1), (HALF, QUARTER, 1), (HALF, THREE, 1), (1, HALF, 1), (1, THREE, 1)],
            [(0, QUARTER, part), (0, HALF, Ratio(1, 3)), (0, THREE, Ratio(1, 3)), (HALF, QUARTER, THIRD),
             (HALF, HALF, part), (HALF, THREE, THIRD), (1, QUARTER, THIRD), (1, HALF, THIRD), (1, THREE, part)],
        ]:
            self.assertIs(is_passing(one, other, value), True)

    def test_each_sum(self):
        one, other = [(0, 1), (HALF, 2), (1, 1)], [(QUARTER, 2), (THREE, 2)]
        good = [(0, QUARTER, 1), (HALF, QUARTER, 1), (HALF, THREE, 1), (1, THREE, 1)]
        self.assertIs(is_passing(one, other, good), True)
        for value in [
            # All sums of days, but not the chances of the other one.
            [(0, QUARTER, HALF), (0, THREE, HALF), (HALF, QUARTER, 1), (HALF, THREE, 1), (1, QUARTER, HALF), (1, THREE, HALF)],
            # Too few days of a chance, and of another one too many.
            [(0, QUARTER, 1), (HALF, QUARTER, 1), (HALF, THREE, 1)], [*good[:3], (1, THREE, 2)],
            [(0, QUARTER, Ratio(3, 2)), (HALF, QUARTER, HALF), (HALF, THREE, 1), (1, THREE, 1)],
            [(0, QUARTER, 2), (HALF, QUARTER, 2), (HALF, THREE, 2), (1, THREE, 2)],
            [(HALF, QUARTER, 1), (HALF, THREE, 1)], [],
        ]:
            self.assertIs(is_passing(one, other, value), False)

    def test_right_sums_but_for_one_kind(self):
        one, other, most = [(0, 2), (1, 2)], [(QUARTER, 2), (THREE, 2)], Ratio(3, 2)
        good = [(0, QUARTER, most), (0, THREE, HALF), (1, QUARTER, HALF), (1, THREE, most)]
        self.assertIs(is_passing(one, other, good), True)
        # Ordered by the other one's chances first.
        self.assertIs(is_passing(one, other, [good[0], good[2], good[1], good[3]]), False)
        # All but the days that come to each chance.
        self.assertIs(is_passing(one, other, [(0, QUARTER, 2), (1, QUARTER, HALF), (1, THREE, most)]), False)
        # Days of no chance of the one, and days that come to none of the other one.
        stray = [(0, QUARTER, HALF), (0, HALF, HALF), (HALF, HALF, 1), (1, QUARTER, HALF), (1, HALF, HALF)]
        self.assertIs(is_passing([(0, 1), (1, 1)], [(HALF, 2)], stray), False)

    def test_sums_of_days_with_right_means(self):
        # The mean of what comes to each chance is right, the days that come there are not, nor those that go.
        one, other = [(0, 2), (HALF, 2), (1, 2)], [(HALF, 6)]
        self.assertIs(is_passing(one, other, [(0, HALF, 2), (HALF, HALF, 2), (1, HALF, 2)]), True)
        self.assertIs(is_passing(one, other, [(0, HALF, 1), (HALF, HALF, 4), (1, HALF, 1)]), False)
        self.assertIs(is_passing(one, other, [(0, HALF, 1), (HALF, HALF, 2), (1, HALF, 1)]), False)
        one, other = [(QUARTER, 4)], [(QUARTER, 4)]
        self.assertIs(is_passing(one, other, [(QUARTER, QUARTER, 3)]), False)

    def test_order_and_kinds(self):
        one, other = [(0, 1), (HALF, 2), (1, 1)], [(QUARTER, 2), (THREE, 2)]
        good = [(0, QUARTER, 1), (HALF, QUARTER, 1), (HALF, THREE, 1), (1, THREE, 1)]
        self.assertIs(is_passing(one, other, tuple(good)), True)
        for value in [
            good[::-1], [good[0], good[2], good[1], good[3]], [good[1], good[0], good[2], good[3]],
            [(0, QUARTER, HALF), (0, QUARTER, HALF), *good[1:]], [*good[:3], (1, THREE, HALF), (1, THREE, HALF)],
            [(0, QUARTER, 1), (0, THREE, 0), *good[1:]], [list(row) for row in good], [*good[:3], [1, THREE, 1]],
            [*good, (1, 1, 1)], [(0, 0, 1), *good], [*good[:3], (1, THREE)], [*good[:3], (1, THREE, 1, 1)],
            [*good[:3], (True, THREE, 1)], [*good[:3], (1, THREE, True)], [(False, QUARTER, 1), *good[1:]],
            [*good[:3], (1, "3/4", 1)], [*good[:3], (1, THREE, "1")], [*good[:3], (2, THREE, 1)], {0: good[0]},
            [*good, None], [*good[:3], (1, [THREE], 1)], [*good[:3], (1, THREE, [1])], [*good[:3], ({}, THREE, 1)],
            [(0, QUARTER, 2), (0, THREE, -1), *good[1:]], [*good[:3], (deep(900), THREE, 1)], "passing", None, True,
            [*good[:3], (1, Ratio(2, 3), 1)], [*good[:3], (Ratio(9, 10), THREE, 1)],
        ] + odd_values():
            self.assertIs(is_passing(one, other, value), False)

    def test_parts_of_any_kind(self):
        rows = [(HALF, HALF)]
        for value in odd_values():
            half = isinstance(value, Ratio) and value == HALF
            for item in [(value, HALF, HALF), (HALF, value, HALF), (HALF, HALF, value)]:
                self.assertIs(is_passing(rows, rows, [item]), half)
            self.assertIs(is_passing(rows, rows, [value]), False)


class Lattice(unittest.TestCase):
    def check_form(self, found):
        self.assertIs(is_profile(found), True)
        self.assertIs(type(found), list)
        for row in found:
            self.assertEqual([type(row), type(row[0]), type(row[1])], [tuple, Ratio, Ratio])

    def test_heights(self):
        random = Random(102)
        for _ in range(100):
            rows = random_profile(random)
            bars = [random.choice(between(ends(rows))) for _ in range(random.randint(0, 8))]
            found = heights(passed(random, rows), [given(random, bar) for bar in bars])
            self.assertEqual(fractions(found), [height(rows, bar) for bar in bars])
            self.assertEqual([type(found), *[type(number) for number in found]], [list, *[Ratio] * len(bars)])
            self.assertTrue(heights(as_profile(rows), tuple([ratio(bar) for bar in bars])) == found)

    def test_more_exactly_if_no_height_is_less(self):
        for one, other in random_pairs(103, 150):
            bars = ends(one, other)
            told = [fractions(heights(as_profile(rows), [ratio(bar) for bar in bars])) for rows in [one, other]]
            no_less = all(mine >= theirs for mine, theirs in zip(*told))
            self.assertIs(says_more(as_profile(one), as_profile(other)), no_less)

    def test_joined_and_common(self):
        random = Random(104)
        kinds = set()
        for one, other in random_pairs(105, 250):
            mine, theirs = passed(random, one), passed(random, other)
            above, below = joined(mine, theirs), common(mine, theirs)
            self.check_form(above)
            self.check_form(below)
            self.assertTrue(joined(theirs, mine) == above)
            self.assertTrue(common(theirs, mine) == below)
            for bar in between(ends(one, other, fractions(above))):
                self.assertEqual(height(fractions(above), bar), max(height(one, bar), height(other, bar)))
            for rows in [one, other]:
                self.assertIs(says_more(above, as_profile(rows)), True)
                self.assertIs(says_more(as_profile(rows), below), True)
            if is_at_least(one, other):
                self.assertEqual([fractions(above), fractions(below)], [one, other])
            kinds.add((is_at_least(one, other), is_at_least(other, one)))
        self.assertEqual(len(kinds), 4)

    def test_third_profiles_above_both(self):
        random = Random(106)
        seen = 0
        for one, other in random_pairs(107, 250):
            above = joined(as_profile(one), as_profile(other))
            for start in [one, other, fractions(above)]:
                third = changed(random, start, [sharpened, sharpened, dulled], 4)
                if is_at_least(third, one) and is_at_least(third, other):
                    self.assertIs(says_more(as_profile(third), above), True)
                    seen += third != fractions(above)
        self.assertGreater(seen, 100)

    def test_third_profiles_below_both(self):
        random = Random(108)
        seen = 0
        for one, other in random_pairs(109, 250):
            below = common(as_profile(one), as_profile(other))
            for start in [one, other, fractions(below)]:
                third = changed(random, start, [dulled, dulled, sharpened], 4)
                if is_at_least(one, third) and is_at_least(other, third):
                    self.assertIs(says_more(below, as_profile(third)), True)
                    seen += third != fractions(below)
        self.assertGreater(seen, 100)

    def test_common_has_greatest_heights(self):
        # No line above the heights of the common one stays below both everywhere: at each of its chances
        # it has the height of one of the two.
        for one, other in random_pairs(110, 150):
            for chance, _ in fractions(common(as_profile(one), as_profile(other))):
                lesser = min(height(one, chance), height(other, chance))
                self.assertEqual(height(fractions(common(as_profile(one), as_profile(other))), chance), lesser)

    def test_a_profile_and_itself(self):
        for rows in [[(0, 2), (QUARTER, HALF), (1, 3)], [(HALF, 1)], [(0, 4)], [(1, Ratio(1, 3))], [(0, 1), (1, 1)]]:
            self.assertTrue(joined(rows, rows) == rows)
            self.assertTrue(common(rows, rows) == rows)

    def test_greatest_and_least_profiles(self):
        one, other = [(QUARTER, 2), (THREE, 2)], [(0, 2), (1, 2)]
        self.assertTrue(joined(one, other) == other)
        self.assertTrue(common(one, other) == one)
        self.assertTrue(common([(HALF, 4)], other) == [(HALF, 4)])
        self.assertTrue(joined([(HALF, 4)], other) == other)


class Callers(unittest.TestCase):
    def test_by_name(self):
        one, other = [(0, 2), (1, 2)], [(HALF, 4)]
        record = steady()
        self.assertIs(is_profile(value=one), True)
        self.assertEqual(len(profile(name="ann", record=record)), 4)
        self.assertTrue(profile_loss(actor=(HALF, True), profile=other) == 1)
        self.assertIs(says_more(other=other, one=one), True)
        self.assertIsNone(loser(other=other, one=one))
        self.assertEqual(len(passing(other=other, one=one)), 2)
        self.assertIs(is_passing(value=None, other=other, one=one), False)
        self.assertTrue(joined(other=other, one=one) == one)
        self.assertTrue(common(other=other, one=one) == other)
        self.assertTrue(heights(bars=[HALF], profile=one) == [1])

    def test_what_is_passed_stays(self):
        one, other = [(0, 2), (HALF, 1), (1, 2)], [(QUARTER, 2), (HALF, 1), (THREE, 2)]
        kept = [list(one), list(other)]
        for function in [*TWO_PROFILES, lambda first, second: heights(first, [0])]:
            function(one, other)
        self.assertTrue([one, other] == kept)
        self.assertEqual([type(number) for number in one[0]], [int, int])

    def test_lists_that_the_caller_changes(self):
        one, other = [(0, 2), (HALF, 1), (1, 2)], [(QUARTER, 2), (HALF, 1), (THREE, 2)]
        for function in [passing, joined, common, lambda first, second: heights(first, [0, HALF])]:
            kept = function(one, other)
            function(one, other).clear()
            self.assertTrue(function(one, other) == kept)
        record = steady()
        profile(record, "ann").clear()
        self.assertEqual(len(profile(record, "ann")), 4)

    def test_equal_arguments(self):
        one, other = [(0, 2), (HALF, 1), (1, 2)], [(QUARTER, 2), (HALF, 1), (THREE, 2)]
        for first, second in [(tuple(one), tuple(other)), ([(Ratio(0), Ratio(2)), (HALF, Ratio(1)), (1, 2)], other)]:
            self.assertTrue(passing(first, second) == passing(one, other))
            self.assertTrue(loser(second, first) == loser(other, one))

    def test_great_numbers(self):
        random = Random(111)
        rows = table(
            (Fraction(random.randint(1, 10 ** 12 - 2), 10 ** 12 - 1), Fraction(random.randint(1, 10 ** 12), random.randint(1, 10 ** 12)))
            for _ in range(16)
        )
        one, other = as_profile(rows), as_profile(changed(random, rows, [dulled], 9))
        self.assertTrue(is_right_passing(rows, fractions(other), fractions(passing(one, other))))
        third = as_profile(changed(random, changed(random, rows, [dulled], 9), [sharpened], 9))
        above = joined(other, third)
        self.assertIs(is_passing(above, other, passing(above, other)), True)
        self.assertIs(is_passing(other, common(other, third), passing(other, common(other, third))), True)


class ClosedAlone(unittest.TestCase):
    def test_reliable_ahead(self):
        record = Record(["ann"], [([HALF], "wet", 1), ([HALF], "dry", 1)])
        self.assertTrue(profile(record, "ann") == [(HALF, 2)])
        with self.assertRaises(NotReliable):
            profile(cid(), "cid")


if __name__ == "__main__":
    unittest.main()
