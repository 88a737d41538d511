"""The examples of the interface, word for word."""

import unittest

NAMING = '''
>>> from saidchances.naming import is_weather, is_word
>>> [is_word("rain"), is_word("Rain"), is_word(""), is_word(5), is_weather("open"), is_weather("snow")]
[True, False, False, False, True, False]
'''

RATIOS = '''
>>> from saidchances.ratios import Ratio, greatest, is_chance, total
>>> third = Ratio(-2, -6)
>>> [third.top, third.bottom, str(third - 1), str(third.over(Ratio(1, 6))), third.below(1), is_chance(third)]
[1, 3, '-2/3', '2', True, True]
>>> [str(total([third, 1])), str(greatest([0, third, Ratio(1, 4)])), str((third - 1).size()), Ratio.read("4") == 4]
['4/3', '1/3', '2/3', True]
>>> Ratio.read("2/4")
raises BadText()
'''

RECORDS = '''
>>> from saidchances.ratios import Ratio
>>> from saidchances.records import Record
>>> lines = [([Ratio(3, 4), Ratio(1, 4)], "open", 4), ([Ratio(1, 4), Ratio(3, 4)], "wet", 1), ([Ratio(1, 4), Ratio(3, 4)], "open", 3)]
>>> crossed = Record(["bob", "ann"], lines)
>>> [crossed.people(), str(crossed).split("\\n"), [str(chance) for chance in crossed.said("ann")]]
[['ann', 'bob'], ['people ann bob', '1/4 3/4 open 4', '3/4 1/4 wet 1', '3/4 1/4 open 3'], ['1/4', '3/4']]
>>> [crossed.days((Ratio(3, 4), Ratio(1, 4))), crossed.counts("bob", Ratio(1, 4)), str(crossed.due("ann", Ratio(3, 4))), crossed.closed(), crossed.all_days()]
[(1, 0, 3), (1, 0, 3), '3', False, 8]
>>> str(crossed.of(["ann"])).split("\\n")
['people ann', '1/4 open 4', '3/4 wet 1', '3/4 open 3']
>>> crossed.counts("eve", 0)
raises UnknownName('eve')
'''


def steps(example):
    """The tuples (statement, what the example shows for it or None)."""
    found = []
    for row in example.strip("\n").split("\n"):
        if row.startswith(">>> "):
            found.append((row.removeprefix(">>> "), None))
        else:
            found[-1] = (found[-1][0], row)
    return found


def shown(statement, names):
    """What comes of a statement, as the document writes it."""
    try:
        value = eval(statement, names)
    except ValueError as error:
        values = ", ".join(repr(value) for value in vars(error).values())
        return f"raises {type(error).__name__}({values})"
    return repr(value)


class Examples(unittest.TestCase):
    def run_example(self, example):
        names = {}
        for statement, expected in steps(example):
            if expected is None:
                exec(statement, names)
            else:
                self.assertEqual(shown(statement, names), expected)

    def test_naming(self):
        self.run_example(NAMING)

    def test_ratios(self):
        self.run_example(RATIOS)

    def test_records(self):
        self.run_example(RECORDS)


if __name__ == "__main__":
    unittest.main()
