"""Point 23: open days ahead of all else, then unknown names, for all functions over closed records."""

import unittest

from saidchances import actors, compared, curves, hulls, righted, rising, sharper, words
from saidchances.errors import OpenDays, UnknownName
from saidchances.ratios import Ratio
from saidchances.records import Record
from tests.values import odd_values

HALF = Ratio(1, 2)
# For each function how many names it takes, and arguments behind them that it refuses or judges.
FUNCTIONS = [
    (actors.loss, 1, [None]), (actors.score_loss, 1, [None]), (actors.squares, 1, []), (actors.gain, 1, [None, True]),
    (curves.curve, 1, []), (curves.area, 1, []), (curves.area_between, 1, [2, 3]), (curves.worst_bars, 1, []),
    (compared.never_worse, 2, []), (compared.worse_actor, 2, []), (compared.is_worse_actor, 2, [None]),
    (compared.alike, 2, []), (compared.stretches, 2, []), (compared.best_stretches, 0, []), (compared.never_best, 1, []),
    (righted.shares, 1, []), (righted.reliable, 1, []), (righted.unreliable, 1, []), (righted.led, 1, [None]),
    (righted.put_right, 1, []), (righted.parts, 1, [None]), (righted.score_parts, 1, [None]),
    (righted.square_parts, 1, []),
    (rising.blocks, 1, []), (rising.is_blocks, 1, [None]), (rising.risen, 1, []), (rising.best_cut, 1, [None]),
    (rising.order_part, 1, [None]), (hulls.alarms, 1, []), (hulls.hull, 1, []), (hulls.hull_height, 1, [None]),
    (hulls.least_by_hull, 1, [None]), (hulls.ranked, 1, []), (hulls.alarm_area, 1, []), (hulls.hull_area, 1, []),
    (sharper.profile, 1, []), (words.distance, 2, []), (words.mean, 2, [None]), (words.best_weight, 2, []),
    (words.few_words, 1, [None, None]), (words.words_needed, 1, [None, None]),
]


class Refusals(unittest.TestCase):
    def test_open_days_ahead_of_all_else(self):
        for lines in [[([HALF, 0], "open", 1)], [([HALF, 0], "wet", 1), ([0, 0], "dry", 2), ([1, HALF], "open", 3)]]:
            record = Record(["ann", "bob"], lines)
            for function, many, rest in FUNCTIONS:
                for names in [["ann", "bob"], ["eve", "ann"], ["ann", None], [{}, []], [3, HALF]]:
                    with self.assertRaises(OpenDays):
                        function(record, *names[:many], *rest)

    def test_open_days_of_people_who_are_left_out_stay(self):
        record = Record(["ann", "bob"], [([HALF, 0], "wet", 1), ([HALF, 1], "open", 1)]).of(["bob"])
        for function, many, rest in FUNCTIONS:
            with self.assertRaises(OpenDays):
                function(record, *["bob", "bob"][:many], *rest)

    def test_unknown_names_ahead_of_other_errors(self):
        record = Record(["ann", "bob"], [([HALF, 0], "wet", 1), ([0, 0], "dry", 2)])
        for value in odd_values() + ["an", "anna", "bo", ["bob"], ("ann", "bob"), b"ann"]:
            if isinstance(value, str) and value in ("ann", "bob"):
                continue
            for function, many, rest in FUNCTIONS:
                for at in range(many):
                    for others in [["ann", "bob"], ["bob", "bob"]]:
                        names = others[:at] + [value] + others[at + 1:many]
                        self.refused(value, function, record, *names, *rest)
                    self.refused(value, function, record, *(["ann"] * at), *[value, [1], {}][:many - at], *rest)

    def refused(self, value, function, *arguments):
        with self.assertRaises(UnknownName) as caught:
            function(*arguments)
        self.assertIs(caught.exception.name, value)

    def test_closed_records_and_known_names(self):
        record = Record(["ann", "bob"], [([HALF, Ratio(1, 3)], "wet", 1), ([0, Ratio(1, 3)], "dry", 2)])
        good = {
            actors.loss: [(HALF, True)], actors.score_loss: [[((HALF, True), 1)]], actors.gain: [[1, 0, 0, 1], True],
            curves.area_between: [0, 1], compared.is_worse_actor: [None], righted.led: [[(0, 0), (HALF, 1)]],
            righted.parts: [(HALF, True)], righted.score_parts: [[((HALF, True), 1)]],
            rising.is_blocks: [None], rising.best_cut: [(HALF, True)], rising.order_part: [(HALF, True)],
            hulls.hull_height: [1], hulls.least_by_hull: [HALF], words.mean: [HALF],
            words.few_words: [1, [((HALF, True), 1)]], words.words_needed: [[((HALF, True), 1)], 0],
        }
        for function, many, _ in FUNCTIONS:
            names = ["bob", "ann"] if function == sharper.profile else ["ann", "bob"]
            function(record, *names[:many], *good.get(function, []))

    def test_records_stay(self):
        record = Record(["ann", "bob"], [([HALF, 0], "wet", 1), ([0, 0], "dry", 2)])
        text = str(record)
        for function, many, rest in FUNCTIONS:
            try:
                function(record, *["ann", "bob"][:many], *rest)
            except ValueError:
                pass
        self.assertEqual(str(record), text)


if __name__ == "__main__":
    unittest.main()
