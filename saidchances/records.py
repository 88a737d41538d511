"""Records: on how many days, wet, dry or open, people said which chances."""

from saidchances.decimals import notation
from saidchances.errors import BadLine, BadLines, BadPeople, BadText, NoCell, NotSaid, UnknownName
from saidchances.kinds import is_integer, is_list
from saidchances.naming import WEATHERS, is_weather, is_word
from saidchances.ratios import Ratio, as_ratio, ascending, is_chance, is_number

MOST_PEOPLE = 3


class Record:
    """The days of one to three people, which never change."""

    def __init__(self, people, lines):
        if not is_people(people):
            raise BadPeople(people)
        if not is_list(lines) or len(lines) == 0:
            raise BadLines(lines)
        for line in lines:
            if not is_line(line, len(people)):
                raise BadLine(line)
        self._people = sorted(people)
        self._days = counted(lines, [people.index(name) for name in self._people])
        self._cells = ascending([cell_of(key) for key in self._days])

    def people(self):
        """The names, ascending."""
        return list(self._people)

    def cells(self):
        """The cells, ascending."""
        return list(self._cells)

    def days(self, cell):
        """How many days of a cell are wet, dry and open."""
        if not is_row(cell) or key_of(cell) not in self._days:
            raise NoCell(cell)
        return self._days[key_of(cell)]

    def closed(self):
        """Whether there are no open days."""
        return all([days[2] == 0 for days in self._days.values()])

    def all_days(self):
        """The number of all days."""
        return sum([sum(days) for days in self._days.values()])

    def said(self, name):
        """The chances that a person said, ascending."""
        place = self._place(name)
        return [row[0] for row in ascending([(cell[place],) for cell in self._cells])]

    def counts(self, name, chance):
        """On how many wet, dry and open days a person said a chance."""
        place = self._place(name)
        found = [self._days[key_of(cell)] for cell in self._cells if cell[place] == chance]
        if len(found) == 0:
            raise NotSaid(chance)
        return tuple([sum(many) for many in zip(*found)])

    def due(self, name, chance):
        """What is due to a person and a chance."""
        days = sum(self.counts(name, chance))
        return as_ratio(chance) * days

    def of(self, people):
        """The record of some of the people."""
        if not is_people(people) or not all([name in self._people for name in people]):
            raise BadPeople(people)
        places = [self._people.index(name) for name in people]
        return Record(people, [([cell[at] for at in places], word, many) for cell, word, many in self._lines()])

    def _place(self, name):
        if name not in self._people:
            raise UnknownName(name)
        return self._people.index(name)

    def _lines(self):
        table = [(cell, self._days[key_of(cell)]) for cell in self._cells]
        return [(cell, word, many) for cell, days in table for word, many in zip(WEATHERS, days) if many > 0]

    def __eq__(self, other):
        return isinstance(other, Record) and self._people == other._people and self._days == other._days

    def __str__(self):
        head = " ".join(["people", *self._people])
        return "\n".join([head, *[line_text(cell, word, many) for cell, word, many in self._lines()]])

    @classmethod
    def read(cls, text):
        """The record with a text."""
        if not isinstance(text, str):
            raise BadText()
        head, *rows = [row.split(" ") for row in text.split("\n")]
        lines = [line_of(parts) for parts in rows]
        try:
            record = cls(head[1:], lines)
        except (BadPeople, BadLines, BadLine):
            raise BadText() from None
        # A record has just one text: this refuses another order, doubled lines and another first word.
        if str(record) != text:
            raise BadText()
        return record


def is_people(value):
    """Whether any value is a list of one to three different words."""
    if not is_list(value) or len(value) < 1 or len(value) > MOST_PEOPLE:
        return False
    return all([is_word(name) for name in value]) and len(set(value)) == len(value)


def is_line(value, count):
    """Whether any value is a line of a record with so many people."""
    if not isinstance(value, tuple) or len(value) != 3:
        return False
    said, weather, days = value
    return is_said(said, count) and is_weather(weather) and is_integer(days) and days > 0


def is_said(value, count):
    """Whether any value is a list of chances, one for each of so many people."""
    return is_list(value) and len(value) == count and all([is_chance(chance) for chance in value])


def is_row(value):
    """Whether any value is a tuple of numbers, as cells are."""
    return isinstance(value, tuple) and all([is_number(number) for number in value])


def key_of(cell):
    """Tops and bottoms in the place of numbers: dicts take these as keys, but no Ratios."""
    ratios = [as_ratio(number) for number in cell]
    return tuple([(ratio.top, ratio.bottom) for ratio in ratios])


def cell_of(key):
    """The cell with a key."""
    return tuple([Ratio(top, bottom) for top, bottom in key])


def counted(lines, places):
    """The wet, dry and open days of each cell, by its key; places are those of the people, ascending."""
    found = {}
    for said, weather, days in lines:
        key = key_of([said[at] for at in places])
        before = found.get(key, (0, 0, 0))
        found[key] = tuple([many + days if word == weather else many for word, many in zip(WEATHERS, before)])
    return found


def line_text(cell, weather, days):
    """A line of the text of a record."""
    return " ".join([*[str(chance) for chance in cell], weather, notation(days)])


def line_of(parts):
    """What the parts of a line of a text say; whether this is a line is not judged here."""
    if len(parts) < 3:
        raise BadText()
    *said, weather, days = parts
    number = Ratio.read(days)
    if number.bottom != 1:
        raise BadText()
    return [Ratio.read(chance) for chance in said], weather, number.top
