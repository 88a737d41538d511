"""All errors of the package; those with an attribute keep the very value that they name."""


class RainError(ValueError):
    """What all errors of this package are."""


class ByZero(RainError):
    """A quotient by 0 was asked for."""


class BadText(RainError):
    """A value is not the text that was expected."""


class OpenDays(RainError):
    """A record has open days where it must be closed."""


class NoOutcomes(RainError):
    """There are no outcomes by which all people come true."""


class NothingToUndo(RainError):
    """A book has no deed left that can be taken back."""


class UnlikeProfiles(RainError):
    """Two profiles differ in their days, or in the wet ones among these."""


class BadNumber(RainError):
    """A value is not the number that was expected."""

    def __init__(self, value):
        self.value = value


class BadPeople(RainError):
    """A value is no list of people."""

    def __init__(self, people):
        self.people = people


class BadLines(RainError):
    """A value is no list of one or more items."""

    def __init__(self, lines):
        self.lines = lines


class BadLine(RainError):
    """An item is no line of a record."""

    def __init__(self, line):
        self.line = line


class NoCell(RainError):
    """A value is no cell of the record."""

    def __init__(self, cell):
        self.cell = cell


class BadCells(RainError):
    """A value is no list of different cells of the record."""

    def __init__(self, cells):
        self.cells = cells


class UnknownName(RainError):
    """A value is no name of a person of the record."""

    def __init__(self, name):
        self.name = name


class NotSaid(RainError):
    """A value is no number that the person said."""

    def __init__(self, chance):
        self.chance = chance


class BadChance(RainError):
    """A value is not the chance that was expected."""

    def __init__(self, value):
        self.value = value


class BadActor(RainError):
    """A value is no actor."""

    def __init__(self, actor):
        self.actor = actor


class BadScore(RainError):
    """A value is no score."""

    def __init__(self, score):
        self.score = score


class BadGains(RainError):
    """A value is no list of gains."""

    def __init__(self, gains):
        self.gains = gains


class BadStakes(RainError):
    """A value is no stakes of the record."""

    def __init__(self, stakes):
        self.stakes = stakes


class NotTwo(RainError):
    """A record has another number of people than two."""

    def __init__(self, count):
        self.count = count


class BadCount(RainError):
    """A value is not the count that was expected."""

    def __init__(self, count):
        self.count = count


class NotReliable(RainError):
    """A person is not reliable."""

    def __init__(self, name):
        self.name = name


class BadWeight(RainError):
    """A value is no weight above 0 and below 1."""

    def __init__(self, value):
        self.value = value


class BadPairs(RainError):
    """A value is no function of what the person said."""

    def __init__(self, pairs):
        self.pairs = pairs


class BadProfile(RainError):
    """A value is no profile."""

    def __init__(self, profile):
        self.profile = profile
