"""The examples of the interface, word for word, and those of README.md."""

import doctest
import unittest
from pathlib import Path

NAMING = '''
>>> from saidchances.naming import is_weather, is_word
>>> [is_word("rain"), is_word("Rain"), is_word(""), is_word(5), is_weather("open"), is_weather("snow")]
[True, False, False, False, True, False]
'''

RATIOS = '''
>>> from saidchances.ratios import Ratio, greatest, is_chance, total
>>> third = Ratio(-2, -6)
>>> [third.top, third.bottom, str(third - 1), str(third.over(Ratio(1, 6))), third.below(1), is_chance(third)]
[1, 3, '-2/3', '2', True, True]
>>> [str(total([third, 1])), str(greatest([0, third, Ratio(1, 4)])), str((third - 1).size()), Ratio.read("4") == 4]
['4/3', '1/3', '2/3', True]
>>> Ratio.read("2/4")
raises BadText()
'''

RECORDS = '''
>>> from saidchances.ratios import Ratio
>>> from saidchances.records import Record
>>> lines = [([Ratio(3, 4), Ratio(1, 4)], "open", 4), ([Ratio(1, 4), Ratio(3, 4)], "wet", 1), ([Ratio(1, 4), Ratio(3, 4)], "open", 3)]
>>> crossed = Record(["bob", "ann"], lines)
>>> [crossed.people(), str(crossed).split("\\n"), [str(chance) for chance in crossed.said("ann")]]
[['ann', 'bob'], ['people ann bob', '1/4 3/4 open 4', '3/4 1/4 wet 1', '3/4 1/4 open 3'], ['1/4', '3/4']]
>>> [crossed.days((Ratio(3, 4), Ratio(1, 4))), crossed.counts("bob", Ratio(1, 4)), str(crossed.due("ann", Ratio(3, 4))), crossed.closed(), crossed.all_days()]
[(1, 0, 3), (1, 0, 3), '3', False, 8]
>>> str(crossed.of(["ann"])).split("\\n")
['people ann', '1/4 open 4', '3/4 wet 1', '3/4 open 3']
>>> crossed.counts("eve", 0)
raises UnknownName('eve')
'''

ACTORS = '''
>>> from saidchances.actors import acts_on, actor_of, gain, loss, score_loss, squares
>>> from saidchances.ratios import Ratio
>>> from saidchances.records import Record
>>> days = Record.read("people ann bob\\n1/4 1/2 wet 1\\n1/4 1/2 dry 3\\n3/4 1/2 wet 3\\n3/4 1/2 dry 1")
>>> half = (Ratio(1, 2), True)
>>> [acts_on(half, Ratio(1, 2)), str(loss(days, "ann", half)), str(loss(days, "bob", half)), str(squares(days, "ann")), str(squares(days, "bob"))]
[True, '1', '2', '3/2', '2']
>>> str(score_loss(days, "ann", [(half, 2), ((Ratio(9, 10), False), 5)]))
'4'
>>> [str(actor_of([4, 0, 0, 4], False)[0][0]), str(actor_of([4, 0, 0, 4], False)[1]), str(gain(days, "ann", [4, 0, 0, 4], False))]
['1/2', '8', '24']
'''

CURVES = '''
>>> from saidchances.curves import area, area_between, curve, loss_on, told_back, worst_bars
>>> from saidchances.ratios import Ratio
>>> from saidchances.records import Record
>>> days = Record.read("people ann bob\\n1/4 1/2 wet 1\\n1/4 1/2 dry 3\\n3/4 1/2 wet 3\\n3/4 1/2 dry 1")
>>> [[str(number) for number in row] for row in curve(days, "ann")]
[['0', '0', '0'], ['1/4', '1', '1'], ['3/4', '1', '1'], ['1', '0', '0']]
>>> [[str(number) for number in row] for row in curve(days, "bob")]
[['0', '0', '0'], ['1/2', '2', '2'], ['1', '0', '0']]
>>> [str(loss_on(curve(days, "ann"), (Ratio(9, 10), True))), str(area(days, "ann")), str(area_between(days, "bob", 0, Ratio(1, 2)))]
['2/5', '3/4', '1/2']
>>> [(str(chance), wet, dry) for chance, wet, dry in told_back(curve(days, "ann"), 4, 4)]
[('1/4', 1, 3), ('3/4', 3, 1)]
>>> [str(worst_bars(days, "ann")[0]), [str(bar) for bar in worst_bars(days, "ann")[1]]]
['1', ['1/4', '3/4']]
>>> area_between(days, "ann", Ratio(1, 2), 0)
raises BadChance(0)
'''

COMPARED = '''
>>> from saidchances.compared import best_stretches, never_worse, stretches, worse_actor
>>> from saidchances.records import Record
>>> days = Record.read("people ann bob\\n1/4 1/2 wet 1\\n1/4 1/2 dry 3\\n3/4 1/2 wet 3\\n3/4 1/2 dry 1")
>>> [never_worse(days, "ann", "bob"), worse_actor(days, "ann", "bob"), never_worse(days, "bob", "ann")]
[True, None, False]
>>> [(str(low), str(high), word) for low, high, word in stretches(days, "bob", "ann")]
[('0', '1/4', 'alike'), ('1/4', '3/4', 'worse'), ('3/4', '1', 'alike')]
>>> [(str(low), str(high), names) for low, high, names in best_stretches(days)]
[('0', '1/4', ['ann', 'bob']), ('1/4', '3/4', ['ann']), ('3/4', '1', ['ann', 'bob'])]
'''

RIGHTED = '''
>>> from saidchances.ratios import Ratio
>>> from saidchances.records import Record
>>> from saidchances.righted import led, parts, put_right, reliable, shares, square_parts, unreliable
>>> days = Record.read("people cid\\n1/4 wet 1\\n1/4 dry 1\\n1/2 dry 2\\n3/4 wet 2")
>>> [[str(chance), str(share)] for chance, share in shares(days, "cid")]
[['1/4', '1/2'], ['1/2', '0'], ['3/4', '1']]
>>> [reliable(days, "cid"), [str(chance) for chance in unreliable(days, "cid")], str(put_right(days, "cid")).split("\\n")]
[False, ['1/4', '1/2', '3/4'], ['people cid', '0 dry 2', '1/2 wet 1', '1/2 dry 1', '1 wet 2']]
>>> [[str(part) for part in parts(days, "cid", (Ratio(1, 2), True))], [str(part) for part in square_parts(days, "cid")]]
[['3/2', '1', '1'], ['3/2', '1', '3/4']]
>>> str(led(days, "cid", [(Ratio(1, 4), 0), (Ratio(1, 2), 0), (Ratio(3, 4), 1)])).split("\\n")
['people cid', '0 wet 1', '0 dry 3', '1 wet 2']
'''

RISING = '''
>>> from saidchances.ratios import Ratio
>>> from saidchances.records import Record
>>> from saidchances.rising import best_cut, blocks, is_blocks, is_rising, order_part, risen
>>> days = Record.read("people cid\\n1/4 wet 1\\n1/4 dry 1\\n1/2 dry 2\\n3/4 wet 2")
>>> [[[str(chance) for chance in chances], str(share)] for chances, share in blocks(days, "cid")]
[[['1/4', '1/2'], '1/4'], [['3/4'], '1']]
>>> [is_blocks(days, "cid", blocks(days, "cid")), is_rising([(0, 1), (Ratio(1, 2), 1)]), is_rising([(0, 1), (Ratio(1, 2), 0)])]
[True, True, False]
>>> str(risen(days, "cid")).split("\\n")
['people cid', '1/4 wet 1', '1/4 dry 3', '1 wet 2']
>>> half = (Ratio(1, 2), True)
>>> [str(best_cut(days, "cid", half)[0]), str(order_part(days, "cid", half)), str(order_part(days, "cid", (Ratio(1, 5), False)))]
['1/2', '0', '2/5']
'''

HULLS = '''
>>> from saidchances.hulls import alarm_area, alarms, hull, hull_area, hull_height, least_by_hull, ranked
>>> from saidchances.ratios import Ratio
>>> from saidchances.records import Record
>>> days = Record.read("people cid\\n1/4 wet 1\\n1/4 dry 1\\n1/2 dry 2\\n3/4 wet 2")
>>> [alarms(days, "cid"), hull(days, "cid")]
[[(0, 0), (0, 2), (2, 2), (3, 3)], [(0, 0), (0, 2), (3, 3)]]
>>> [str(hull_height(days, "cid", 1)), str(least_by_hull(days, "cid", Ratio(1, 2))), ranked(days, "cid")]
['7/3', '1/2', (6, 1, 2)]
>>> [str(alarm_area(days, "cid")), str(hull_area(days, "cid"))]
['13/2', '15/2']
>>> hull_height(days, "cid", 4)
raises BadNumber(4)
'''

SHARPER = '''
>>> from saidchances.ratios import Ratio
>>> from saidchances.records import Record
>>> from saidchances.sharper import common, heights, is_passing, joined, loser, passing, profile, profile_loss, says_more
>>> days = Record.read("people ann bob\\n1/4 1/2 wet 1\\n1/4 1/2 dry 3\\n3/4 1/2 wet 3\\n3/4 1/2 dry 1")
>>> ann, bob = profile(days, "ann"), profile(days, "bob")
>>> [[[str(number) for number in row] for row in passing(ann, bob)], passing(bob, ann), loser(ann, bob)]
[[['1/4', '1/2', '4'], ['3/4', '1/2', '4']], None, None]
>>> [says_more(ann, bob), says_more(bob, ann), is_passing(ann, bob, passing(ann, bob)), str(profile_loss(bob, (Ratio(1, 2), False)))]
[True, False, True, '2']
>>> one, other = [(0, 1), (Ratio(1, 2), 3)], [(Ratio(1, 4), 3), (Ratio(3, 4), 1)]
>>> [[str(chance), str(number)] for chance, number in joined(one, other)]
[['0', '1'], ['3/8', '2'], ['3/4', '1']]
>>> [[str(chance), str(number)] for chance, number in common(one, other)]
[['1/4', '2'], ['1/2', '2']]
>>> [[str(height) for height in heights(one, [0, Ratio(1, 4), 1])], says_more(one, other), says_more(one, [(Ratio(3, 8), 4)])]
[['3/2', '3/4', '0'], False, True]
>>> says_more(ann, [(Ratio(1, 2), 7)])
raises UnlikeProfiles()
'''

TWOS = '''
>>> from saidchances.records import Record
>>> from saidchances.twos import barring, is_barring, whole_outcomes, whole_ways
>>> crossed = Record.read("people ann bob\\n1/4 3/4 open 4\\n3/4 1/4 open 4")
>>> [whole_outcomes(crossed), is_barring(crossed, ("ann", [crossed.said("ann")[1]], [crossed.said("bob")[0]]))]
[None, True]
>>> mixed = Record.read("people ann bob\\n1/4 1/4 open 2\\n1/4 3/4 open 2\\n3/4 1/4 open 2\\n3/4 3/4 open 2")
>>> [barring(mixed), whole_outcomes(mixed), whole_ways(mixed)]
[None, [0, 1, 1, 2], 1]
'''

UNSEEN = '''
>>> from saidchances.ratios import Ratio
>>> from saidchances.records import Record
>>> from saidchances.unseen import heard, most_wet, outcomes, sure_gain, winning_stakes
>>> crossed = Record.read("people ann bob\\n1/4 3/4 open 4\\n3/4 1/4 open 4")
>>> low, high = Ratio(1, 4), Ratio(3, 4)
>>> [outcomes(crossed), str(sure_gain(crossed, [[0, -1], [1, 0]]))]
[None, '2']
>>> mixed = Record.read("people ann bob\\n1/4 1/4 open 2\\n1/4 3/4 open 2\\n3/4 1/4 open 2\\n3/4 3/4 open 2")
>>> [winning_stakes(mixed), [str(end) for end in heard(mixed, (low, low))], [str(end) for end in heard(mixed, (low, high))]]
[None, ['0', '0'], ['1/2', '1/2']]
>>> wide = Record.read("people ann bob\\n1/4 1/4 open 4\\n1/4 1/2 open 4\\n1/2 1/4 open 4\\n1/2 1/2 open 4")
>>> [[str(end) for end in heard(wide, (low, low))], str(most_wet(wide, [(low, low), (Ratio(1, 2), Ratio(1, 2))])[0])]
[['0', '1/2'], '6']
'''

GAPS = '''
>>> from saidchances.gaps import changed, gap, groups, is_gap
>>> from saidchances.records import Record
>>> crossed = Record.read("people ann bob\\n1/4 3/4 open 4\\n3/4 1/4 open 4")
>>> [str(gap(crossed)[0]), groups(crossed), is_gap(crossed, gap(crossed))]
['1/4', ([['ann'], ['bob']], [['ann', 'bob']]), True]
>>> wrong = Record.read("people ann\\n1/4 wet 3\\n1/4 dry 1\\n1/2 wet 1\\n1/2 dry 1")
>>> [str(gap(wrong)[0]), str(changed(wrong)[0]), groups(wrong)]
['1/2', '2', ([], [['ann']])]
'''

WORDS = '''
>>> from saidchances.ratios import Ratio
>>> from saidchances.records import Record
>>> from saidchances.words import best_weight, distance, few_words, mean, words_needed
>>> days = Record.read("people ann bob\\n1/4 1/2 wet 1\\n1/4 1/2 dry 3\\n3/4 1/2 wet 3\\n3/4 1/2 dry 1")
>>> [str(distance(days, "ann", "bob")), str(mean(days, "ann", "bob", Ratio(1, 2))).split("\\n")[0:2], str(best_weight(days, "ann", "bob"))]
['1/2', ['people mean', '3/8 wet 1'], '1']
>>> some = Record.read("people cid\\n1/4 wet 1\\n1/4 dry 1\\n1/2 dry 2\\n3/4 wet 2")
>>> score = [((Ratio(1, 2), True), 1), ((Ratio(1, 4), True), 2)]
>>> loss, lots = few_words(some, "cid", 2, score)
>>> [str(loss), [[str(chance) for chance in lot] for lot in lots], words_needed(some, "cid", score, 1), words_needed(some, "cid", score, 0)]
['1', [['1/2'], ['1/4', '3/4']], 2, None]
'''

BOOK = '''
>>> from saidchances.book import Book
>>> from saidchances.ratios import Ratio
>>> book = Book(["bob", "ann"])
>>> low, high = Ratio(1, 4), Ratio(3, 4)
>>> book.note([high, low], "open", 4)
>>> book.note([low, high], "open", 4)
>>> [book.verdict()[0], len(book), str(book.record()).split("\\n")[1]]
['barred', 2, '1/4 3/4 open 4']
>>> book.note([low, low], "open", 8)
>>> book.note([high, high], "wet", 4)
>>> [book.verdict()[0], [str(number) for number in book.verdict()[1]], [str(end) for end in book.likely([high, low])]]
['true', ['1', '2', '2', '4'], ['1/2', '1/2']]
>>> book.undo()
>>> [len(book), book.tried(len), book.is_verdict(book.verdict())]
[3, 3, True]
'''


def steps(example):
    """The tuples (statement, what the example shows for it or None)."""
    found = []
    for row in example.strip("\n").split("\n"):
        if row.startswith(">>> "):
            found.append((row.removeprefix(">>> "), None))
        else:
            found[-1] = (found[-1][0], row)
    return found


def shown(statement, names):
    """What comes of a statement, as the document writes it."""
    try:
        value = eval(statement, names)
    except ValueError as error:
        values = ", ".join(repr(value) for value in vars(error).values())
        return f"raises {type(error).__name__}({values})"
    return repr(value)


class Examples(unittest.TestCase):
    def run_example(self, example):
        names = {}
        for statement, expected in steps(example):
            if expected is None:
                exec(statement, names)
            else:
                self.assertEqual(shown(statement, names), expected)

    def test_naming(self):
        self.run_example(NAMING)

    def test_ratios(self):
        self.run_example(RATIOS)

    def test_records(self):
        self.run_example(RECORDS)

    def test_actors(self):
        self.run_example(ACTORS)

    def test_curves(self):
        self.run_example(CURVES)

    def test_compared(self):
        self.run_example(COMPARED)

    def test_righted(self):
        self.run_example(RIGHTED)

    def test_rising(self):
        self.run_example(RISING)

    def test_hulls(self):
        self.run_example(HULLS)

    def test_sharper(self):
        self.run_example(SHARPER)

    def test_twos(self):
        self.run_example(TWOS)

    def test_unseen(self):
        self.run_example(UNSEEN)

    def test_gaps(self):
        self.run_example(GAPS)

    def test_words(self):
        self.run_example(WORDS)

    def test_book(self):
        self.run_example(BOOK)

    def test_readme(self):
        text = (Path(__file__).resolve().parent.parent / "README.md").read_text(encoding="ascii")
        # An answer would end with the fence behind it otherwise.
        test = doctest.DocTestParser().get_doctest(text.replace("```", ""), {}, "README.md", None, 0)
        self.assertGreater(len(test.examples), 0)
        self.assertEqual(doctest.DocTestRunner(verbose=False).run(test).failed, 0)


if __name__ == "__main__":
    unittest.main()
