"""Live books of days, in which deeds can be tried and taken back."""

from saidchances.errors import BadCount, BadLine, BadPeople, NoCell, NothingToUndo
from saidchances.naming import WEATHERS
from saidchances.ratios import as_ratio
from saidchances.records import Record, cell_of, is_line, is_people, is_said, key_of
from saidchances.unseen import heard, is_outcomes, is_winning, outcomes, winning_stakes

TRUE = "true"
BARRED = "barred"
EMPTY = "empty"


class Book:
    """Days that people told, one deed after the other."""

    def __init__(self, people):
        if not is_people(people):
            raise BadPeople(people)
        self._people = list(people)
        # The days of each cell by its key, in the order of these people. A deed makes a new table, and
        # no table or list of tables is changed: so each of them can be gone back to.
        self._table = {}
        self._before = []

    def note(self, said, weather, days):
        """Notes days on which chances were said."""
        self._check((said, weather, days))
        self._do(said, [(weather, days)])

    def strike(self, said, weather, days):
        """Takes noted days out."""
        self._check((said, weather, days))
        if self._standing(said, weather) < days:
            raise BadCount(days)
        self._do(said, [(weather, -days)])

    def tell(self, said, weather, days):
        """Makes open days wet or dry ones."""
        self._check((said, weather, days))
        if weather == "open":
            raise BadLine((said, weather, days))
        if self._standing(said, "open") < days:
            raise BadCount(days)
        self._do(said, [("open", -days), (weather, days)])

    def _check(self, line):
        if not is_line(line, len(self._people)):
            raise BadLine(line)

    def _standing(self, said, weather):
        return self._table.get(key_of(said), (0, 0, 0))[WEATHERS.index(weather)]

    def _do(self, said, changes):
        counts = list(self._table.get(key_of(said), (0, 0, 0)))
        for weather, days in changes:
            counts[WEATHERS.index(weather)] += days
        table = {key: self._table[key] for key in self._table}
        table[key_of(said)] = tuple(counts)
        self._before = [*self._before, self._table]
        self._table = table

    def record(self):
        """The record of the days that stand, or None."""
        lines = [
            (cell_of(key), word, many)
            for key, counts in self._table.items() for word, many in zip(WEATHERS, counts) if many > 0
        ]
        return Record(self._people, lines) if len(lines) > 0 else None

    def verdict(self):
        """Whether all people come true, with outcomes or stakes that show it."""
        record = self.record()
        if record is None:
            return (EMPTY, None)
        found = outcomes(record)
        if found is None:
            return (BARRED, winning_stakes(record))
        return (TRUE, found)

    def is_verdict(self, value):
        """Whether any value is a verdict, with any outcomes or stakes that show it."""
        word, _ = self.verdict()
        if not isinstance(value, tuple) or len(value) != 2 or value[0] != word:
            return False
        if word == EMPTY:
            return value[1] is None
        if word == BARRED:
            return is_winning(self.record(), value[1])
        return is_outcomes(self.record(), value[1])

    def likely(self, said):
        """Between which chances rain must have been likely where people said these chances."""
        record = self.record()
        if record is None or not is_said(said, len(self._people)):
            raise NoCell(said)
        cell = tuple([as_ratio(said[self._people.index(name)]) for name in record.people()])
        try:
            return heard(record, cell)
        except NoCell:
            raise NoCell(said) from None

    def undo(self):
        """Takes back the last deed that was not taken back."""
        if len(self._before) == 0:
            raise NothingToUndo()
        *before, table = self._before
        self._table, self._before = table, before

    def tried(self, act):
        """What a function returns for this book, which afterwards is as it was before."""
        table, before = self._table, self._before
        try:
            return act(self)
        finally:
            self._table, self._before = table, before

    def __len__(self):
        return len(self._before)
