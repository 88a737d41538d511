"""Points 72 to 77: a live book of days, its deeds, its answers, and what can be taken back and tried."""

import unittest
from random import Random

from saidchances.book import Book
from saidchances.errors import BadCount, BadLine, BadPeople, NoCell, NoOutcomes, NothingToUndo
from saidchances.ratios import Ratio
from saidchances.records import Record
from saidchances.unseen import heard, is_outcomes, is_winning, outcomes, winning_stakes
from tests.days import fraction, fractions, gain_by, given, hidden_lines, ratio
from tests.test_records import NO_PEOPLE
from tests.values import deep, odd_values

HALF, QUARTER, THREE = Ratio(1, 2), Ratio(1, 4), Ratio(3, 4)
WEATHERS = ["wet", "dry", "open"]
NAMES = ["cid", "ann", "bob"]


def is_number(value):
    return isinstance(value, (int, Ratio)) and not isinstance(value, bool)


def crossed():
    """The book of the interface's example, and two deeds."""
    book = Book(["bob", "ann"])
    book.note([THREE, QUARTER], "open", 4)
    book.note([QUARTER, THREE], "open", 4)
    return book


def shown(value):
    """A value in terms that can be compared."""
    return str(value) if isinstance(value, Record) else fractions(value)


def state(book):
    """All answers of a book but what undo does."""
    record = book.record()
    return [shown(record), shown(book.verdict()), len(book), record and [shown(record.days(cell)) for cell in record.cells()]]


def fresh(people, table):
    """A book into which just the days that stand were noted."""
    book = Book(people)
    for (said, weather), days in sorted(table.items()):
        if days:
            book.note([ratio(chance) for chance in said], weather, days)
    return book


class Deeds(unittest.TestCase):
    def test_notes_make_the_record(self):
        book = Book(["bob", "ann"])
        self.assertIsNone(book.record())
        self.assertEqual(len(book), 0)
        self.assertIsNone(book.note([HALF, 0], "wet", 2))
        self.assertEqual(str(book.record()), "people ann bob\n0 1/2 wet 2")
        self.assertIsNone(book.note((HALF, 0), "wet", 1))
        self.assertIsNone(book.note([1, Ratio(0)], "open", 3))
        self.assertEqual(str(book.record()), "people ann bob\n0 1/2 wet 3\n0 1 open 3")
        self.assertIs(type(book.record()), Record)
        self.assertIsNone(book.strike([HALF, 0], "wet", 2))
        self.assertIsNone(book.tell((1, 0), "dry", 1))
        self.assertEqual(str(book.record()), "people ann bob\n0 1/2 wet 1\n0 1 dry 1\n0 1 open 2")
        self.assertIsNone(book.tell([1, 0], "wet", 2))
        self.assertEqual(str(book.record()), "people ann bob\n0 1/2 wet 1\n0 1 wet 2\n0 1 dry 1")
        self.assertEqual(len(book), 6)

    def test_striking_all(self):
        book = Book(["ann"])
        book.note([HALF], "dry", 2)
        book.strike([HALF], "dry", 2)
        self.assertIsNone(book.record())
        self.assertEqual(book.verdict(), ("empty", None))
        self.assertEqual(len(book), 2)
        book.note([0], "dry", 1)
        self.assertEqual(str(book.record()), "people ann\n0 dry 1")

    def test_bad_people(self):
        for value in NO_PEOPLE + [value for value in odd_values() if value not in (["ann"], ("ann",), ["ann", "bob"])]:
            with self.assertRaises(BadPeople) as caught:
                Book(value)
            self.assertIs(caught.exception.people, value)
        for value in [["ann"], ("ann",), ["cid", "bob", "ann"]]:
            self.assertEqual(len(Book(value)), 0)

    def lines_near(self):
        good = ([HALF, 0], "open", 2)
        return [
            ([HALF], "open", 2), ([HALF, 0, 1], "open", 2), ([], "open", 2), ([HALF, 2], "open", 2), ([HALF, True], "open", 2),
            ([HALF, -1], "open", 2), ([HALF, None], "open", 2), (HALF, "open", 2), ({0: HALF, 1: 0}, "open", 2), ("10", "open", 2),
            (None, "open", 2), ([HALF, 0], "snow", 2), ([HALF, 0], None, 2), ([HALF, 0], ["open"], 2), ([HALF, 0], {}, 2),
            ([HALF, 0], "open", 0), ([HALF, 0], "open", -1), ([HALF, 0], "open", True), ([HALF, 0], "open", Ratio(2)),
            ([HALF, 0], "open", "2"), ([HALF, 0], "open", None), ([HALF, 0], "open", [2]), ([HALF, 0], "Open", 2),
            ([HALF, deep(900)], "open", 2), (good, "open", 2), ([HALF, 0], "open", HALF),
        ]

    def test_bad_lines(self):
        book = Book(["bob", "ann"])
        book.note([HALF, 0], "open", 9)
        before = state(book)
        for line in self.lines_near():
            for deed in [book.note, book.strike, book.tell]:
                self.refused(deed, *line)
        for value in odd_values():
            for deed in [book.note, book.strike, book.tell]:
                if not (isinstance(value, (list, tuple)) and len(value) == 2 and all(map(is_number, value))):
                    self.refused(deed, value, "wet", 1)
                if value not in ("wet", "open"):
                    self.refused(deed, [HALF, 0], value, 1)
                if not (is_number(value) and isinstance(value, int) and value >= 1):
                    self.refused(deed, [HALF, 0], "wet", value)
        self.assertEqual(state(book), before)

    def refused(self, deed, said, weather, days):
        with self.assertRaises(BadLine) as caught:
            deed(said, weather, days)
        line = caught.exception.line
        self.assertEqual([type(line), len(line)], [tuple, 3])
        self.assertIs(line[0], said)
        self.assertIs(line[1], weather)
        self.assertIs(line[2], days)

    def test_telling_open_days_open(self):
        book = Book(["ann"])
        book.note([HALF], "open", 2)
        for days in [1, 2, 3, 10 ** 12]:
            self.refused(book.tell, [HALF], "open", days)
        self.assertEqual(len(book), 1)

    def test_too_few_days(self):
        book = Book(["ann"])
        book.note([HALF], "open", 2)
        book.note([HALF], "wet", 5)
        book.note([0], "dry", 7)
        before = state(book)
        many = 10 ** 12 + 1
        for deed, said, weather, days in [
            (book.strike, [HALF], "open", 3), (book.strike, [HALF], "wet", 6), (book.strike, [HALF], "dry", 1),
            (book.strike, [1], "wet", 1), (book.strike, [0], "dry", many), (book.strike, [0], "wet", 1),
            (book.tell, [HALF], "wet", 3), (book.tell, [HALF], "dry", many), (book.tell, [0], "dry", 1), (book.tell, [1], "wet", 1),
        ]:
            with self.assertRaises(BadCount) as caught:
                deed(said, weather, days)
            self.assertIs(caught.exception.count, days)
        self.assertEqual(state(book), before)
        book.strike([HALF], "wet", 5)
        book.tell([HALF], "dry", 2)
        self.assertEqual(str(book.record()), "people ann\n0 dry 7\n1/2 dry 2")

    def test_what_was_handed_in_is_changed(self):
        people, said = ["bob", "ann"], [HALF, 0]
        book = Book(people)
        people.reverse()
        people.append("eve")
        book.note(said, "open", 2)
        said[0] = 1
        self.assertEqual(str(book.record()), "people ann bob\n0 1/2 open 2")
        said[:] = [HALF, 0]
        book.tell(said, "wet", 1)
        said.clear()
        book.undo()
        self.assertEqual(str(book.record()), "people ann bob\n0 1/2 open 2")

    def test_by_name(self):
        book = Book(people=["ann"])
        book.note(days=2, weather="open", said=[HALF])
        book.tell(days=1, said=[HALF], weather="wet")
        book.strike(weather="open", days=1, said=[HALF])
        self.assertEqual(str(book.record()), "people ann\n1/2 wet 1")
        self.assertIs(book.is_verdict(value=None), False)
        with self.assertRaises(NoOutcomes):
            book.likely(said=[HALF])
        self.assertEqual(book.tried(act=len), 3)


class Verdicts(unittest.TestCase):
    def test_each_word(self):
        book = crossed()
        word, stakes = book.verdict()
        self.assertEqual([word, type(book.verdict())], ["barred", tuple])
        self.assertGreater(gain_by(book.record(), fractions(stakes)), 0)
        book.note([QUARTER, QUARTER], "open", 8)
        book.note([THREE, THREE], "wet", 4)
        word, numbers = book.verdict()
        self.assertEqual(word, "true")
        self.assertTrue(numbers == [1, 2, 2, 4])
        self.assertEqual({type(number) for number in numbers}, {Ratio})
        self.assertEqual(Book(["ann"]).verdict(), ("empty", None))

    def test_in_the_order_of_the_record(self):
        random = Random(190)
        seen = set()
        for _ in range(80):
            names = random.sample(NAMES, random.randint(1, 3))
            book = Book(names)
            kept = random.choice([1, 0.8, 0.2])
            for said, weather, days in hidden_lines(random, names, 3, 2):
                if random.random() < kept:
                    book.note([ratio(said[name]) for name in names], weather, days)
            record = book.record()
            word, part = book.verdict()
            if record is None:
                self.assertEqual((word, part), ("empty", None))
            elif outcomes(record) is None:
                self.assertEqual(word, "barred")
                self.assertIs(is_winning(record, part), True)
                self.assertIs(type(part), list)
            else:
                self.assertEqual(word, "true")
                self.assertIs(is_outcomes(record, part), True)
                self.assertIs(type(part), list)
            self.assertIs(book.is_verdict((word, part)), True)
            seen.add((len(names), word))
        self.assertGreater(len(seen), 5)

    def test_judged_verdicts_of_an_empty_book(self):
        for book in [Book(["ann"]), Book(["cid", "ann"])]:
            self.assertIs(book.is_verdict(("empty", None)), True)
            for value in [
                ["empty", None], ("empty",), ("empty", None, None), ("empty", 0), ("empty", False), ("empty", []), ("true", None),
                ("true", []), ("barred", None), ("barred", [[]]), "empty", None, (None, None), ({}, None), (["empty"], None),
                ("Empty", None), ("empty", {}), (0, None), (HALF, None),
            ] + odd_values():
                self.assertIs(book.is_verdict(value), False)

    def test_judged_verdicts_of_true_people(self):
        book = Book(["bob", "ann"])
        for one in (QUARTER, HALF):
            for other in (QUARTER, HALF):
                book.note([one, other], "open", 4)
        for value in [("true", [0, 2, 2, 2]), ("true", (2, 0, 0, 4)), ("true", [1, Ratio(1), 1, 3]), ("true", [HALF, Ratio(3, 2), Ratio(3, 2), Ratio(5, 2)])]:
            self.assertIs(book.is_verdict(value), True)
        stakes = winning_stakes(crossed().record())
        for value in [
            ["true", [0, 2, 2, 2]], ("true", [0, 2, 2]), ("true", [0, 2, 2, 3]), ("true", [3, -1, -1, 5]), ("true", None), ("true",),
            ("true", [0, 2, 2, 2], 0), ("barred", [0, 2, 2, 2]), ("barred", stakes), ("empty", None), ("empty", [0, 2, 2, 2]),
            (True, [0, 2, 2, 2]), (None, [0, 2, 2, 2]), ({}, [0, 2, 2, 2]), ([0, 2, 2, 2], "true"), ("true", [[0, 2, 2, 2]]),
            ("true", [True, 1, 1, 3]), ("true", {}), (HALF, [0, 2, 2, 2]), ("true", deep(900)),
        ] + odd_values():
            self.assertIs(book.is_verdict(value), False)
        for value in odd_values():
            self.assertIs(book.is_verdict(("true", value)), False)
            self.assertIs(book.is_verdict((value, [0, 2, 2, 2])), False)

    def test_judged_verdicts_of_barred_people(self):
        book = crossed()
        for value in [("barred", [[0, -1], [1, 0]]), ("barred", ((0, -2), (Ratio(5, 2), 0))), ("barred", [[1, 0], [0, -1]]), book.verdict()]:
            self.assertIs(book.is_verdict(value), gain_by(book.record(), fractions(value[1])) > 0)
        self.assertIs(book.is_verdict(("barred", [[0, -1], [1, 0]])), True)
        self.assertIs(book.is_verdict(book.verdict()), True)
        for value in [
            ("barred", [[0, 1], [-1, 0]]), ("barred", [[0, 0], [0, 0]]), ("barred", [[0, -1]]), ("barred", [[0, -1], [1]]),
            ("barred", [0, -1, 1, 0]), ("true", [[0, -1], [1, 0]]), ("true", [1, 3]), ("true", None), ("empty", None),
            ("barred", None), ["barred", [[0, -1], [1, 0]]], ("barred", [[0, -1], [True, 0]]), ("barred",), ("barred", {}),
            ("barred", [[0, -1], [1, 0]], None), (1, [[0, -1], [1, 0]]), ("barred", deep(900)),
        ] + odd_values():
            self.assertIs(book.is_verdict(value), False)
        for value in odd_values():
            self.assertIs(book.is_verdict(("barred", value)), False)
            self.assertIs(book.is_verdict((value, [[0, -1], [1, 0]])), False)

    def test_likely(self):
        book = crossed()
        book.note([QUARTER, QUARTER], "open", 8)
        book.note([THREE, THREE], "wet", 4)
        for said, expected in [([THREE, QUARTER], (HALF, HALF)), ((QUARTER, QUARTER), (Ratio(1, 8), Ratio(1, 8))), ([THREE, THREE], (1, 1))]:
            answer = book.likely(said)
            self.assertTrue(answer == expected)
            self.assertEqual([type(answer), *[type(end) for end in answer]], [tuple, Ratio, Ratio])
        wide = Book(["cid", "ann"])
        for one in (0, HALF):
            for other in (QUARTER, THREE):
                wide.note([one, other], "open", 4)
        with self.assertRaises(NoOutcomes):
            wide.likely([0, QUARTER])

    def test_likely_in_the_order_of_the_people(self):
        book = Book(["cid", "bob", "ann"])
        book.note([0, HALF, QUARTER], "dry", 1)
        book.note([HALF, HALF, QUARTER], "open", 2)
        book.note([HALF, HALF, QUARTER], "dry", 1)
        record = book.record()
        self.assertEqual(str(record).split("\n")[1], "1/4 1/2 0 dry 1")
        for said in [[0, HALF, QUARTER], [HALF, HALF, QUARTER]]:
            self.assertIs(outcomes(record), None)
            with self.assertRaises(NoOutcomes):
                book.likely(said)
        for said in [[QUARTER, HALF, 0], [QUARTER, HALF, HALF]]:
            with self.assertRaises(NoCell):
                book.likely(said)

    def test_likely_as_heard(self):
        random = Random(191)
        for _ in range(60):
            names = random.sample(NAMES, random.randint(1, 3))
            book = Book(names)
            for said, weather, days in hidden_lines(random, names, 5, 3, 0.2, marks=2):
                book.note([ratio(said[name]) for name in names], weather, days)
            record = book.record()
            for cell in record.cells():
                table = dict(zip(record.people(), cell))
                said = random.choice([list, tuple])(given(random, fraction(table[name])) for name in names)
                self.assertTrue(book.likely(said) == heard(record, cell))

    def test_no_cell(self):
        books = [crossed(), Book(["bob", "ann"])]
        for value in [
            [QUARTER, QUARTER], [THREE], [THREE, QUARTER, 0], [], (), None, {}, "3/4 1/4", [THREE, None], [THREE, True],
            [[THREE, QUARTER]], {0: THREE, 1: QUARTER}, [THREE, "1/4"], [THREE, deep(900)], [1, 0], THREE, [2, QUARTER], [THREE, {}],
        ] + odd_values():
            for book in books:
                with self.assertRaises(NoCell) as caught:
                    book.likely(value)
                self.assertIs(caught.exception.cell, value)
        with self.assertRaises(NoOutcomes):
            books[0].likely([THREE, QUARTER])
        said = [THREE, QUARTER]
        with self.assertRaises(NoCell) as caught:
            books[1].likely(said)
        self.assertIs(caught.exception.cell, said)

    def test_a_cell_whose_days_are_struck(self):
        book = Book(["ann"])
        book.note([HALF], "open", 2)
        book.note([0], "dry", 2)
        self.assertTrue(book.likely([HALF]) == (HALF, HALF))
        book.strike([HALF], "open", 2)
        with self.assertRaises(NoCell):
            book.likely([HALF])
        self.assertTrue(book.likely([0]) == (0, 0))
        book.strike([0], "dry", 2)
        with self.assertRaises(NoCell):
            book.likely([0])

    def test_lists_that_the_caller_changes(self):
        book = crossed()
        kept = book.verdict()
        book.verdict()[1].clear()
        book.verdict()[1][0].clear()
        self.assertTrue(book.verdict() == kept)
        book.record().people().clear()
        self.assertEqual(len(book.record().people()), 2)


class Trial(Exception):
    pass


class Undone(unittest.TestCase):
    def deeds(self):
        return [
            lambda book: book.note([HALF, 0], "open", 4), lambda book: book.note([HALF, 0], "wet", 1),
            lambda book: book.tell([HALF, 0], "dry", 2), lambda book: book.note([0, 1], "open", 3),
            lambda book: book.strike([HALF, 0], "open", 2), lambda book: book.tell([0, 1], "wet", 3),
            lambda book: book.strike([HALF, 0], "wet", 1), lambda book: book.strike([0, 1], "wet", 2),
        ]

    def test_undo_of_each_deed(self):
        book = Book(["bob", "ann"])
        states = [state(book)]
        for deed in self.deeds():
            deed(book)
            states.append(state(book))
        self.assertEqual(len(book), 8)
        for expected in states[:-1][::-1]:
            self.assertIsNone(book.undo())
            self.assertEqual(state(book), expected)
        with self.assertRaises(NothingToUndo):
            book.undo()
        self.assertEqual(state(book), states[0])

    def test_deeds_that_were_refused_are_none(self):
        book = Book(["bob", "ann"])
        book.note([HALF, 0], "open", 1)
        for wrong in [lambda: book.note([HALF], "open", 1), lambda: book.strike([HALF, 0], "wet", 1), lambda: book.tell([HALF, 0], "wet", 2), lambda: book.likely([])]:
            with self.assertRaises(ValueError):
                wrong()
        self.assertEqual(len(book), 1)
        book.undo()
        self.assertEqual([len(book), book.record()], [0, None])
        with self.assertRaises(NothingToUndo):
            book.undo()
        book.note([0, 0], "dry", 1)
        self.assertEqual(len(book), 1)

    def test_deeds_after_undo(self):
        book = Book(["bob", "ann"])
        deeds = self.deeds()
        deeds[0](book)
        deeds[1](book)
        book.undo()
        deeds[3](book)
        self.assertEqual(len(book), 2)
        self.assertEqual(str(book.record()), "people ann bob\n0 1/2 open 4\n1 0 open 3")
        book.undo()
        book.undo()
        self.assertIsNone(book.record())

    def built(self, many=4):
        book = Book(["bob", "ann"])
        for deed in self.deeds()[:many]:
            deed(book)
        return book

    def check_same(self, book, before, many=4):
        """The book is as before, also what undo can take back."""
        self.assertEqual(state(book), before)
        kept = self.built(many)
        book.undo()
        kept.undo()
        self.assertEqual(state(book), state(kept))
        self.deeds()[many - 1](book)
        self.assertEqual(state(book), before)

    def test_trials_that_return(self):
        book = self.built()
        before = state(book)
        value = [deep(3)]
        self.assertIs(book.tried(lambda same: value), value)
        self.assertIsNone(book.tried(lambda same: None))
        self.assertIs(book.tried(lambda same: same), book)
        self.check_same(book, before)

        def act(same):
            self.assertIs(same, book)
            same.note([1, 1], "wet", 7)
            same.strike([HALF, 0], "open", 2)
            same.undo()
            same.undo()
            same.undo()
            same.tell([HALF, 0], "wet", 2)
            return str(same.record()), len(same)

        self.assertEqual(book.tried(act), ("people ann bob\n0 1/2 wet 3\n0 1/2 dry 2", 4))
        self.check_same(book, before)

    def test_trials_that_raise(self):
        for error in [Trial("odd"), KeyError(3), ValueError(), KeyboardInterrupt(), NothingToUndo(), BadCount(4), SystemExit(), StopIteration()]:
            book = self.built()
            before = state(book)

            def act(same):
                same.note([1, 1], "wet", 7)
                same.undo()
                same.undo()
                raise error

            with self.assertRaises(type(error)) as caught:
                book.tried(act)
            self.assertIs(caught.exception, error)
            self.check_same(book, before)

    def test_trials_that_undo_more_than_they_did(self):
        book = self.built()
        before = state(book)

        def act(same):
            for _ in range(5):
                same.undo()

        with self.assertRaises(NothingToUndo):
            book.tried(act)
        self.check_same(book, before)

        def all_back(same):
            for _ in range(4):
                same.undo()
            same.note([1, 1], "dry", 1)
            return same.verdict()[0], len(same), str(same.record())

        self.assertEqual(book.tried(all_back), ("barred", 1, "people ann bob\n1 1 dry 1"))
        self.check_same(book, before)

    def test_trials_within_trials(self):
        book = self.built()
        before = state(book)
        seen = []

        def third(same):
            same.undo()
            same.undo()
            same.note([0, 0], "dry", 1)
            seen.append(state(same))
            raise Trial()

        def second(same):
            same.strike([0, 1], "open", 3)
            inside = state(same)
            with self.assertRaises(Trial):
                same.tried(third)
            self.assertEqual(state(same), inside)
            same.undo()
            return "second"

        def first(same):
            same.note([1, 0], "wet", 2)
            inside = state(same)
            self.assertEqual(same.tried(second), "second")
            self.assertEqual(state(same), inside)
            self.assertEqual(same.tried(second), "second")
            return state(same) == inside

        self.assertIs(book.tried(first), True)
        self.assertEqual(len(seen), 2)
        self.assertEqual(seen[0], seen[1])
        self.check_same(book, before)

    def test_a_trial_of_an_empty_book(self):
        book = Book(["ann"])
        self.assertEqual(book.tried(len), 0)
        self.assertIsNone(book.tried(lambda same: same.note([HALF], "wet", 1)))
        self.assertEqual(state(book), state(Book(["ann"])))
        with self.assertRaises(NothingToUndo):
            book.undo()

    def test_other_books_stay(self):
        one, other = self.built(), self.built()
        one.tried(lambda same: other.note([1, 1], "wet", 1))
        self.assertEqual([len(one), len(other)], [4, 5])
        one.undo()
        self.assertEqual(len(other), 5)

    def test_methods_and_functions_with_two_ways_as_acts(self):
        book = self.built()
        before = state(book)
        self.assertEqual(book.tried(Book.verdict)[0], book.verdict()[0])
        self.assertIsNone(book.tried(Book.undo))
        self.check_same(book, before)


class Days(unittest.TestCase):
    def test_as_a_book_of_the_days_that_stand(self):
        random = Random(192)
        words = set()
        for _ in range(40):
            names = random.sample(NAMES, random.randint(1, 3))
            book, tables = Book(names), [{}]
            chances = [ratio(fraction(chance)) for chance in random.sample([0, QUARTER, HALF, THREE, 1], 2)]
            for _ in range(20):
                self.step(random, book, tables, names, chances)
                other = fresh(names, tables[-1])
                self.assertEqual(shown(book.record()), shown(other.record()))
                self.assertEqual(len(book), len(tables) - 1)
            self.assertTrue(book.verdict() == other.verdict())
            self.assertIs(book.is_verdict(other.verdict()), True)
            words.add(book.verdict()[0])
        self.assertGreater(len(words), 1)

    def step(self, random, book, tables, names, chances):
        """A deed, done or refused, an undo, or a trial; the tables are those of the days that stood."""
        kind = random.choice(["note", "note", "note", "strike", "tell", "undo", "tried"])
        said = tuple(fraction(random.choice(chances)) for _ in names)
        passed = [given(random, chance) for chance in said]
        weather, days = random.choice(WEATHERS), random.randint(1, 3)
        table = dict(tables[-1])
        if kind == "undo":
            if len(tables) > 1:
                tables.pop()
                book.undo()
        elif kind == "tried":
            copies = [dict(row) for row in tables]
            book.tried(lambda same: [self.step(random, same, copies, names, chances) for _ in range(3)])
        elif kind == "note":
            table[(said, weather)] = table.get((said, weather), 0) + days
            book.note(passed, weather, days)
            tables.append(table)
        elif kind == "tell" and weather == "open":
            with self.assertRaises(BadLine):
                book.tell(passed, weather, days)
        else:
            source = weather if kind == "strike" else "open"
            deed = book.strike if kind == "strike" else book.tell
            if table.get((said, source), 0) < days:
                with self.assertRaises(BadCount):
                    deed(passed, weather, days)
                return
            table[(said, source)] -= days
            if kind == "tell":
                table[(said, weather)] = table.get((said, weather), 0) + days
            deed(passed, weather, days)
            tables.append(table)

    def test_great_numbers(self):
        book = Book(["ann", "bob", "cid"])
        for at in range(20):
            said = [Ratio(at % 4 + 1, 10 ** 12 - 1), Ratio(at % 5 + 1, 10 ** 12 - 3), Ratio(at % 3 + 1, 10 ** 12 - 7)]
            book.note(said, WEATHERS[at % 3], 10 ** 12 - at)
        self.assertEqual(len(book), 20)
        self.assertIs(book.is_verdict(book.verdict()), True)


if __name__ == "__main__":
    unittest.main()
