"""Days of one profile given to the chances of another one that says less."""

from saidchances.ratios import Ratio, ascending, greatest, least, total


def shifted(mine, theirs):
    """For each row of theirs, how many days it gets of each row of mine, which says at least as much."""
    chances, left = [chance for chance, _ in mine], [days for _, days in mine]
    table = []
    for chance, days in theirs:
        # Of the days left, neighbouring ones are taken whose mean is the chance. This spoils least of
        # what is left, so that later chances find theirs, too.
        taken = neighbours(chances, left, days, chance * days)
        left = [old - new for old, new in zip(left, taken)]
        table.append(taken)
    return table


def neighbours(chances, left, days, wet):
    """So many neighbouring days of those left, among which so many are wet, told by their chances."""
    ends = ends_of(left)
    places = starts(ends, days)
    # Further on there are never fewer wet days: this halves the places among which there are first enough.
    at, last = 0, len(places) - 1
    while at < last:
        middle = (at + last) // 2
        if wet_among(chances, stretch(ends, places[middle], days)).below(wet):
            at = middle + 1
        else:
            last = middle
    taken = stretch(ends, places[at], days)
    many = wet_among(chances, taken)
    if many == wet:
        return taken
    before = stretch(ends, places[at - 1], days)
    part = (many - wet).over(many - wet_among(chances, before))
    return [high - (high - low) * part for low, high in zip(before, taken)]


def ends_of(left):
    """The sums of the first numbers of a list, of none to all."""
    found = [Ratio(0)]
    for number in left:
        found.append(found[-1] + number)
    return found


def starts(ends, days):
    """The places, ascending, from which so many days begin or end where those of a chance do."""
    found = [(end,) for end in ends] + [(end - days,) for end in ends]
    last = ends[-1] - days
    return [row[0] for row in ascending(found) if not row[0].below(0) and not last.below(row[0])]


def stretch(ends, start, days):
    """How many days of each chance are within a stretch of the days left."""
    return [
        greatest([0, least([high, start + days]) - greatest([low, start])]) for low, high in zip(ends, ends[1:])
    ]


def wet_among(chances, taken):
    """How many of some days are wet."""
    return total([chance * days for chance, days in zip(chances, taken)])
