"""Claims: what people said of a record, as tuples (cells, days, due), and programs over them.

There is a claim for each person, in ascending order of the names, and each chance of this person, in
ascending order; its cells are told by their numbers in the record.
"""

from math import lcm

from saidchances.programs import solved
from saidchances.ratios import total


def claims_of(record):
    """All claims of a record."""
    cells = record.cells()
    claims = []
    for place, name in enumerate(record.people()):
        for chance in record.said(name):
            inside = [at for at, cell in enumerate(cells) if cell[place] == chance]
            claims.append((inside, sum(record.counts(name, chance)), record.due(name, chance)))
    return claims


def days_of(record):
    """The numbers (wet, dry, open) of the days of each cell."""
    return [record.days(cell) for cell in record.cells()]


def missing(claims, numbers):
    """What is due to each claim, less what these numbers for all cells come to."""
    return [due - total([numbers[at] for at in inside]) for inside, _, due in claims]


def rows_of(claims, many):
    """For each of so many cells a row with 1 for each claim that it is in, and 0 for the others."""
    return [[int(at in inside) for inside, _, _ in claims] for at in range(many)]


def by_person(record, numbers):
    """Numbers for all claims, in a list for each person."""
    lists = []
    for name in record.people():
        start = sum([len(row) for row in lists])
        lists.append(numbers[start:start + len(record.said(name))])
    return lists


def program(rows, lacks, rooms):
    """A tuple (table, worth, scale): the rows of a program for `solved`, its worth, and how often too great this is.

    The prices of the rows, one for each item of `rows`, are numbers that are asked for: each is at most
    its room, and times their rows they come to what is lacking. The values are, for each claim, how much is
    staked on it, and how much against it, and then what each room is worth.
    """
    table = [
        [*row, *[-number for number in row], *[-int(at == other) for other in range(len(rows))]]
        for at, row in enumerate(rows)
    ]
    scale = 1
    for lack in lacks:
        scale = lcm(scale, lack.bottom)
    whole = [(lack * scale).top for lack in lacks]
    worth = [*whole, *[-number for number in whole], *[-number * scale for number in rooms]]
    return table, worth, scale


def cheapest(rows, lacks, rooms, costs):
    """The numbers, from 0 to their rooms, that times their rows come to what is lacking, at least cost; or None."""
    table, worth, scale = program(rows, lacks, rooms)
    found = solved(table, costs, worth)
    if found is None:
        return None
    _, prices = found
    return [price.over(scale) for price in prices]


def nearest(record):
    """The least gap, outcomes that leave it, and stakes, one for each claim, that gain it."""
    claims, days = claims_of(record), days_of(record)
    lacks = missing(claims, [wet for wet, _, _ in days])
    table, worth, scale = program(rows_of(claims, len(days)), lacks, [untold for _, _, untold in days])
    many = [number for _, number, _ in claims]
    # The gap is the price of staking no more than 1.
    at_stake = [*many, *many, *[0 for _ in days]]
    values, prices = solved([*table, at_stake], [*[0 for _ in days], 1], worth)
    stakes = [values[len(claims) + at] - values[at] for at in range(len(claims))]
    found = [price.over(scale) + wet for price, (wet, _, _) in zip(prices, days)]
    return prices[-1].over(scale), found, stakes
