"""Linear programs over integers, solved exactly."""

from saidchances.ratios import Ratio


def solved(rows, limits, worth):
    """A tuple (values, prices) of a program, or None if its values can be worth any number.

    The values are from 0 on; a row, times the values, is at most its limit, which is from 0 on; and the
    worth, times the values, is greatest. The prices, one for each row, are from 0 on, too; for each value
    they come to at least what it is worth; and for the limits, to just what all values are worth.
    """
    table = first_table(rows, limits, worth)
    # The numbers of the columns whose values are told by the rows; those of the others are 0.
    told = [len(worth) + at for at in range(len(rows))]
    scale = 1
    column = entering(table)
    while column is not None:
        at = leaving(table, column, len(worth))
        if at is None:
            return None
        table, scale = turned(table, at, column, scale), table[at][column]
        told[at] = column
        column = entering(table)
    found = {place: Ratio(row[-1], scale) for place, row in zip(told, table)}
    values = [found.get(at, Ratio(0)) for at in range(len(worth))]
    return values, [Ratio(number, scale) for number in table[-1][len(worth):-1]]


def first_table(rows, limits, worth):
    """The rows, each with a column for what its limit leaves, and the limit; and a last row with the worth."""
    spare = [[int(at == other) for other in range(len(rows))] for at in range(len(rows))]
    table = [[*row, *more, limit] for row, more, limit in zip(rows, spare, limits)]
    return [*table, [*[-number for number in worth], *[0 for _ in rows], 0]]


def entering(table):
    """The column whose value is worth most if it grows, or None."""
    numbers = table[-1][:-1]
    lowest = min(numbers)
    return numbers.index(lowest) if lowest < 0 else None


def leaving(table, column, first):
    """The row that lets the value of a column grow least, or None; `first` is where what limits leave begins."""
    found = None
    for at, row in enumerate(table[:-1]):
        if row[column] > 0 and (found is None or is_tighter(row, table[found], column, first)):
            found = at
    return found


def is_tighter(row, other, column, first):
    """Whether a row lets the value of a column grow less than another row does."""
    # Where both let it grow as much, they are compared as if the limits were all a little greater, the
    # first ones far more than the next ones: so no rows are alike, and no table comes twice.
    for at in [len(row) - 1, *list(range(first, len(row) - 1))]:
        mine, theirs = row[at] * other[column], other[at] * row[column]
        if mine != theirs:
            return mine < theirs
    return False


def turned(table, at, column, scale):
    """The table once the value of a column is told by a row."""
    row = table[at]
    # All numbers are so many times too great as the scale tells: so they stay integers.
    return [
        other if number == at else [
            (mine * row[column] - other[column] * theirs) // scale for mine, theirs in zip(other, row)
        ]
        for number, other in enumerate(table)
    ]
