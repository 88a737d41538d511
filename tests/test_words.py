"""Points 67 to 71: means of two people, and what is lost by fewer words."""

import unittest
from fractions import Fraction
from random import Random

from saidchances.actors import score_loss, squares
from saidchances.errors import BadCount, BadNumber, BadScore, BadWeight
from saidchances.ratios import Ratio
from saidchances.records import Record
from saidchances.righted import put_right, reliable
from saidchances.words import best_weight, distance, few_words, mean, words_needed
from tests.days import as_days, counted, fraction, fractions, given, random_records, ratio
from tests.test_actors import NO_SCORES
from tests.test_righted import cid, sorted_days
from tests.test_rising import one_person
from tests.values import odd_values

HALF, THIRD, QUARTER, THREE = Ratio(1, 2), Ratio(1, 3), Ratio(1, 4), Ratio(3, 4)


def is_number(value):
    return isinstance(value, (int, Ratio)) and not isinstance(value, bool)


def pairs_of(record):
    return [(one, other) for one in record.people() for other in record.people()]


def apart(days, one, other):
    return sum((said[one] - said[other]) ** 2 for said, _ in days)


def mean_days(days, one, other, weight):
    return [({"mean": weight * said[one] + (1 - weight) * said[other]}, wet) for said, wet in days]


def squared(days, name):
    return sum((said[name] - wet) ** 2 for said, wet in days)


def slope(days, one, other, weight):
    """Half of how fast the squares of the mean grow with the weight."""
    return sum(
        (said[one] - said[other]) * (weight * said[one] + (1 - weight) * said[other] - wet) for said, wet in days
    )


def both(*rows):
    """A record of ann and bob, by rows (ann's chance, bob's chance, wet days, dry days)."""
    lines = [([one, other], "wet", wet) for one, other, wet, _ in rows if wet]
    return Record(["ann", "bob"], lines + [([one, other], "dry", dry) for one, other, _, dry in rows if dry])


class Means(unittest.TestCase):
    def test_distances(self):
        for record, days in random_records(180, 100):
            for one, other in pairs_of(record):
                number = distance(record, one, other)
                self.assertIs(type(number), Ratio)
                self.assertEqual(fraction(number), apart(days, one, other))

    def test_means_day_by_day(self):
        random = Random(181)
        for record, days in random_records(182, 80):
            text = str(record)
            for one, other in pairs_of(record):
                weight = Fraction(random.randint(1, 5), random.randint(6, 9))
                found = mean(record, one, other, ratio(weight))
                self.assertIs(type(found), Record)
                self.assertEqual(found.people(), ["mean"])
                self.assertEqual(sorted_days(as_days(found)), sorted_days(mean_days(days, one, other, weight)))
                expected = weight * squared(days, one) + (1 - weight) * squared(days, other)
                expected -= weight * (1 - weight) * apart(days, one, other)
                self.assertEqual(fraction(squares(found, "mean")), expected)
            self.assertEqual(str(record), text)

    def test_weights_near_the_ends(self):
        record = both((0, 1, 1, 0), (1, 0, 0, 2))
        for weight in [Ratio(1, 10 ** 12), Ratio(10 ** 12 - 1, 10 ** 12)]:
            found = mean(record, "ann", "bob", weight)
            self.assertTrue(sorted(found.days((weight,))) == [0, 0, 2])
            self.assertEqual(found.days((Ratio(1) - weight,)), (1, 0, 0))
        self.assertEqual(mean(record, "ann", "bob", HALF).days((HALF,)), (1, 2, 0))
        self.assertTrue(mean(record, "bob", "ann", THIRD).days((THIRD,)) == (1, 0, 0))

    def test_bad_weights(self):
        record = both((0, 1, 1, 0), (1, 0, 0, 2))
        for value in odd_values() + [0, 1, True, Ratio(0), Ratio(1), Ratio(-1, 10 ** 12), Ratio(10 ** 12 + 1, 10 ** 12), 0.5, "1/2"]:
            if is_number(value) and 0 < fraction(value) < 1:
                mean(record, "ann", "bob", value)
                continue
            with self.assertRaises(BadWeight) as caught:
                mean(record, "ann", "ann", value)
            self.assertIs(caught.exception.value, value)

    def test_the_same_name_twice(self):
        record = both((0, 1, 1, 0), (HALF, 0, 1, 2))
        self.assertTrue(distance(record, "ann", "ann") == 0)
        self.assertEqual(str(mean(record, "ann", "ann", THIRD)), "people mean\n0 wet 1\n1/2 wet 1\n1/2 dry 2")
        self.assertTrue(best_weight(record, "bob", "bob") == 0)

    def test_reliable_means(self):
        seen = set()
        for record, _ in random_records(183, 200, people=(2, 3), cells=5):
            one, other = record.people()[:2]
            right = put_right(put_right(record, one), other)
            same = all(cell[0] == cell[1] for cell in right.cells())
            for weight in [THIRD, HALF, Ratio(6, 7)]:
                self.assertIs(reliable(mean(right, one, other, weight), "mean"), same)
            self.assertIs(distance(right, one, other) == 0, same)
            seen.add(same)
        self.assertEqual(seen, {True, False})

    def test_best_weights(self):
        seen = set()
        for record, days in random_records(184, 200, people=(1, 2, 3)):
            for one, other in pairs_of(record):
                found = best_weight(record, one, other)
                self.assertIs(type(found), Ratio)
                weight = fraction(found)
                seen.add(self.kind(days, one, other, weight))
                squares_at = [squared(mean_days(days, one, other, Fraction(at, 12)), "mean") for at in range(13)]
                best = squared(mean_days(days, one, other, weight), "mean")
                self.assertLessEqual(best, min(squares_at))
                self.assertTrue(all(number > best for at, number in enumerate(squares_at) if Fraction(at, 12) < weight))
        self.assertEqual(seen, {"alike", "within", "other", "one"})

    def kind(self, days, one, other, weight):
        """Why the weight is best: by how fast the squares grow there."""
        if apart(days, one, other) == 0:
            self.assertEqual(weight, 0)
            return "alike"
        grows = slope(days, one, other, weight)
        if 0 < weight < 1:
            self.assertEqual(grows, 0)
            return "within"
        self.assertIn(weight, (0, 1))
        self.assertTrue(grows >= 0 if weight == 0 else grows <= 0)
        return "one" if weight else "other"

    def test_best_weights_by_hand(self):
        self.assertTrue(best_weight(both((1, 0, 1, 1)), "ann", "bob") == HALF)
        self.assertTrue(best_weight(both((1, 0, 3, 1)), "ann", "bob") == THREE)
        self.assertTrue(best_weight(both((1, 0, 3, 1)), "bob", "ann") == QUARTER)
        self.assertTrue(best_weight(both((1, HALF, 1, 0)), "ann", "bob") == 1)
        self.assertTrue(best_weight(both((HALF, QUARTER, 1, 0)), "ann", "bob") == 1)
        self.assertTrue(best_weight(both((HALF, QUARTER, 0, 1)), "ann", "bob") == 0)
        self.assertTrue(best_weight(both((0, HALF, 1, 1)), "ann", "bob") == 0)


def cuttings(items):
    """All ways of putting items into lots."""
    if not items:
        yield []
        return
    for lots in cuttings(items[1:]):
        yield [[items[0]], *lots]
        for at in range(len(lots)):
            yield [*lots[:at], [items[0], *lots[at]], *lots[at + 1:]]


def lot_share(lot):
    wet = sum(row[1] for row in lot)
    return Fraction(wet, wet + sum(row[2] for row in lot))


def lot_loss(lot, score):
    wet, dry = sum(row[1] for row in lot), sum(row[2] for row in lot)
    share = lot_share(lot)
    found = Fraction(0)
    for (bar, acts), weight in score:
        acting = share > bar or (acts and share == bar)
        found += weight * (bar * dry if acting else (1 - bar) * wet)
    return found


def random_score(random, days):
    shares = [lot_share([row]) for row in counted(days, "ann")]
    score = []
    for _ in range(random.randint(1, 4)):
        bar = random.choice([Fraction(random.randint(0, 6), 6), random.choice(shares)])
        score.append(((bar, random.random() < 0.5), Fraction(random.randint(1, 5), random.randint(1, 3))))
    return score


def passed(random, score):
    return [((given(random, bar), acts), given(random, weight)) for (bar, acts), weight in score]


def random_tallies(seed, many, most=6):
    """Records with more chances each than others of these tests have."""
    random = Random(seed)
    for _ in range(many):
        chances = random.sample(range(12), random.randint(1, most))
        rows = [(Ratio(chance, 12), random.randint(0, 3), random.randint(0, 3)) for chance in chances]
        rows = [(chance, wet, dry if wet + dry else 1) for chance, wet, dry in rows]
        record = one_person(*rows)
        yield Record(["ann"], [([cell[0]], word, days) for cell in record.cells() for word, days in zip(["wet", "dry"], record.days(cell)) if days])


class FewWords(unittest.TestCase):
    def test_against_all_ways_of_putting_chances_into_lots(self):
        random = Random(185)
        seen = set()
        for record in random_tallies(186, 60):
            days = as_days(record)
            rows = counted(days, "ann")
            score = random_score(random, days)
            least = {}
            for lots in cuttings(rows):
                loss = sum(lot_loss(lot, score) for lot in lots)
                least[len(lots)] = min(loss, least.get(len(lots), loss))
            for most in [*range(1, len(rows) + 2), 10 ** 12]:
                expected = min(loss for many, loss in least.items() if many <= most)
                for function_score in [passed(random, score), tuple(passed(random, score))]:
                    answer = few_words(record, "ann", most, function_score)
                    self.check(answer, rows, score, most, expected)
                seen.add((most, expected == least[1]))
            for bound in {*least.values(), Fraction(-1), least[1] + 1, least[1] - Fraction(1, 7), Fraction(0)}:
                self.check_needed(random, record, score, least, bound)
        self.assertGreater(len(seen), 9)

    def check(self, answer, rows, score, most, expected):
        self.assertEqual([type(answer), type(answer[0]), type(answer[1])], [tuple, Ratio, list])
        self.assertEqual({type(lot) for lot in answer[1]}, {list})
        self.assertEqual({type(chance) for lot in answer[1] for chance in lot}, {Ratio})
        loss, lots = fractions(answer)
        self.assertEqual(loss, expected)
        self.assertLessEqual(len(lots), most)
        self.assertEqual(sorted(chance for lot in lots for chance in lot), [row[0] for row in rows])
        self.assertEqual(lots, [sorted(lot) for lot in lots])
        found = [[row for row in rows if row[0] in lot] for lot in lots]
        shares = [lot_share(lot) for lot in found]
        self.assertEqual(shares, sorted(shares))
        self.assertEqual(sum(lot_loss(lot, score) for lot in found), expected)

    def check_needed(self, random, record, score, least, bound):
        needed = [many for many, loss in sorted(least.items()) if loss <= bound]
        answer = words_needed(record, "ann", passed(random, score), given(random, bound))
        self.assertEqual(answer, needed[0] if needed else None)
        self.assertIn(type(answer), (int, type(None)))

    def test_one_lot_and_as_many_as_shares(self):
        random = Random(187)
        for record in random_tallies(188, 60, most=8):
            days = as_days(record)
            rows, score = counted(days, "ann"), random_score(random, days)
            value = passed(random, score)
            loss, lots = few_words(record, "ann", 1, value)
            self.assertTrue(lots == [record.said("ann")])
            self.assertEqual(fraction(loss), lot_loss(rows, score))
            shares = len({lot_share([row]) for row in rows})
            right = score_loss(put_right(record, "ann"), "ann", value)
            for most in [shares, shares + 1, 99]:
                self.assertTrue(few_words(record, "ann", most, value)[0] == right)
            losses = [fraction(few_words(record, "ann", most, value)[0]) for most in range(1, 10)]
            self.assertEqual(losses, sorted(losses, reverse=True))
            self.assertLessEqual(words_needed(record, "ann", value, right), shares)

    def test_equal_shares_far_apart(self):
        record = one_person((0, 1, 1), (QUARTER, 0, 3), (HALF, 2, 2), (1, 3, 0))
        score = [((QUARTER, True), 1), ((THREE, True), 1)]
        loss, lots = few_words(record, "cid", 3, score)
        self.assertTrue(lots == [[QUARTER], [0, HALF], [1]])
        self.assertTrue(loss == Ratio(3, 2))
        self.assertEqual(words_needed(record, "cid", score, loss), 3)
        self.assertIsNone(words_needed(record, "cid", score, Ratio(149, 100)))

    def test_words_needed_by_hand(self):
        some, score = cid(), [((HALF, True), 1), ((QUARTER, True), 2)]
        for bound, expected in [
            (3, 1), (Ratio(9, 2), 1), (10 ** 12, 1), (1, 2), (Ratio(999, 1000), None), (0, None), (-1, None), (Ratio(2), 2),
        ]:
            answer = words_needed(some, "cid", score, bound)
            self.assertEqual(answer, expected)
        self.assertTrue(few_words(some, "cid", 1, score)[0] == 3)

    def test_bad_counts_ahead_of_bad_scores(self):
        record = cid()
        for value in odd_values() + [0, -1, Ratio(1), Ratio(2), 1.0, "1"]:
            good = isinstance(value, int) and not isinstance(value, bool) and value >= 1
            for score in [[((HALF, True), 1)], None, []]:
                if not good:
                    with self.assertRaises(BadCount) as caught:
                        few_words(record, "cid", value, score)
                    self.assertIs(caught.exception.count, value)
                elif score:
                    few_words(record, "cid", value, score)

    def test_no_scores(self):
        record = cid()
        for value in NO_SCORES + odd_values():
            with self.assertRaises(BadScore) as caught:
                few_words(record, "cid", 2, value)
            self.assertIs(caught.exception.score, value)
            for bound in [1, None, {}]:
                with self.assertRaises(BadScore) as caught:
                    words_needed(record, "cid", value, bound)
                self.assertIs(caught.exception.score, value)

    def test_bounds_that_are_no_numbers(self):
        record, score = cid(), [((HALF, True), 1)]
        for value in odd_values():
            if is_number(value):
                words_needed(record, "cid", score, value)
                continue
            with self.assertRaises(BadNumber) as caught:
                words_needed(record, "cid", score, value)
            self.assertIs(caught.exception.value, value)


class Callers(unittest.TestCase):
    def test_by_name(self):
        record, some = both((1, 0, 1, 1)), cid()
        score = [((HALF, True), 1)]
        self.assertTrue(distance(other="bob", one="ann", record=record) == 2)
        self.assertEqual(mean(weight=HALF, other="bob", one="ann", record=record).people(), ["mean"])
        self.assertTrue(best_weight(other="bob", one="ann", record=record) == HALF)
        self.assertEqual(len(few_words(score=score, most=2, name="cid", record=some)[1]), 2)
        self.assertIsNone(words_needed(bound=-1, score=score, name="cid", record=some))

    def test_lists_that_the_caller_changes(self):
        record, score = cid(), [((HALF, True), 1)]
        kept = few_words(record, "cid", 2, score)
        found = few_words(record, "cid", 2, score)
        found[1][0].clear()
        found[1].pop()
        self.assertTrue(few_words(record, "cid", 2, score) == kept)
        self.assertTrue(score == [((HALF, True), 1)])

    def test_equal_records(self):
        lines = [([QUARTER, 0], "wet", 2), ([0, THREE], "dry", 3), ([1, 1], "wet", 1), ([1, 1], "dry", 1)]
        one = Record(["ann", "bob"], lines)
        other = Record(["bob", "ann"], [(said[::-1], word, days) for said, word, days in lines[::-1]])
        score = [((HALF, True), 1), ((QUARTER, False), 2)]
        self.assertTrue(mean(one, "ann", "bob", THIRD) == mean(other, "ann", "bob", THIRD))
        for most in [1, 2, 3]:
            self.assertTrue(few_words(one, "ann", most, score) == few_words(other, "ann", most, tuple(score)))

    def test_great_numbers(self):
        rows = [(Ratio(at, 10 ** 12 - 1), 10 ** 12 - at * at, 10 ** 11 + 7 * at) for at in range(1, 13)]
        score = [((Ratio(10 ** 11 * at + 1, 10 ** 12 - at), True), Ratio(10 ** 12 - at, 10 ** 11 + at)) for at in range(10)]
        record = one_person(*rows)
        loss, lots = few_words(record, "cid", 4, score)
        self.assertLessEqual(len(lots), 4)
        self.assertLessEqual(words_needed(record, "cid", score, loss), 4)


if __name__ == "__main__":
    unittest.main()
