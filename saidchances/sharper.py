"""Profiles of reliable people, and which of two says more."""

from saidchances.actors import is_actor
from saidchances.errors import BadActor, BadProfile, NotReliable, UnlikeProfiles
from saidchances.kinds import is_list
from saidchances.lines import corners, crossing
from saidchances.ratios import Ratio, as_ratio, greatest, is_chance, is_number, least, total
from saidchances.righted import reliable
from saidchances.shifts import shifted
from saidchances.tallies import bars_of, is_acting, tally_of


def is_profile(value):
    """Whether any value is a list of one or more tuples (chance, days) with ascending chances, all unlike."""
    if not is_list(value) or len(value) == 0 or not all([is_said_on(item) for item in value]):
        return False
    return all([as_ratio(one[0]).below(other[0]) for one, other in zip(value, value[1:])])


def is_said_on(value):
    """Whether any value is a tuple of a chance and a number of days above 0."""
    if not isinstance(value, tuple) or len(value) != 2 or not is_chance(value[0]):
        return False
    return is_number(value[1]) and Ratio(0).below(value[1])


def profile(record, name):
    """On how many days a reliable person says each chance."""
    if not reliable(record, name):
        raise NotReliable(name)
    return [(chance, Ratio(wet + dry)) for chance, wet, dry in tally_of(record, name)]


def profile_loss(profile, actor):
    """The loss of somebody with a profile for an actor."""
    rows = rows_of(profile)
    if not is_actor(actor):
        raise BadActor(actor)
    bar = as_ratio(actor[0])
    acting = [(Ratio(1) - chance) * days * bar for chance, days in rows if is_acting(actor, chance)]
    waiting = [chance * days * (Ratio(1) - bar) for chance, days in rows if not is_acting(actor, chance)]
    return total(acting + waiting)


def rows_of(value):
    """The rows of a profile, as Ratios."""
    if not is_profile(value):
        raise BadProfile(value)
    return [(as_ratio(chance), as_ratio(days)) for chance, days in value]


def two_profiles(one, other):
    """The rows of two profiles with the same sums."""
    mine, theirs = rows_of(one), rows_of(other)
    if all_days(mine) != all_days(theirs) or height(mine, Ratio(0)) != height(theirs, Ratio(0)):
        raise UnlikeProfiles()
    return mine, theirs


def all_days(rows):
    """The sum of the days of a profile."""
    return total([days for _, days in rows])


def height(rows, bar):
    """The sum, over the chances of a profile above a bar, of the differences times the days."""
    return total([(chance - bar) * days for chance, days in rows if as_ratio(bar).below(chance)])


def heights(profile, bars):
    """The heights of a profile at some bars."""
    rows = rows_of(profile)
    return [height(rows, bar) for bar in bars]


def says_more(one, other):
    """Whether the one profile is never worse than the other one."""
    return loser(one, other) is None


def loser(one, other):
    """An actor for whom the one profile loses more than the other one, or None."""
    mine, theirs = two_profiles(one, other)
    # The loss for a bar is a sum that is the same for both, less the height: the height changes evenly
    # between neighbouring chances.
    for bar in bars_of([mine, theirs]):
        if height(mine, bar).below(height(theirs, bar)):
            return (bar, True)
    return None


def passing(one, other):
    """A passing from the one profile to the other one, or None."""
    if not says_more(one, other):
        return None
    mine, theirs = two_profiles(one, other)
    table = shifted(mine, theirs)
    return [
        (chance, told, row[at]) for at, (chance, _) in enumerate(mine)
        for (told, _), row in zip(theirs, table) if Ratio(0).below(row[at])
    ]


def is_passing(one, other, value):
    """Whether any value is a passing from the one profile to the other one."""
    mine, theirs = two_profiles(one, other)
    if not is_list(value) or not all([is_shift(item) for item in value]):
        return False
    rows = [tuple([as_ratio(number) for number in item]) for item in value]
    if not all([is_before(row, behind) for row, behind in zip(rows, rows[1:])]):
        return False
    known = [chance for chance, _ in mine], [chance for chance, _ in theirs]
    if not all([row[0] in known[0] and row[1] in known[1] for row in rows]):
        return False
    left = [(chance, total([row[2] for row in rows if row[0] == chance])) for chance in known[0]]
    reached = [[row for row in rows if row[1] == chance] for chance in known[1]]
    right = [(chance, total([row[2] for row in found])) for chance, found in zip(known[1], reached)]
    wet = [total([row[0] * row[2] for row in found]) for found in reached]
    return left == mine and right == theirs and wet == [chance * days for chance, days in theirs]


def is_shift(value):
    """Whether any value is a tuple of two chances and a number above 0."""
    if not isinstance(value, tuple) or len(value) != 3 or not is_chance(value[0]):
        return False
    return is_said_on((value[1], value[2]))


def is_before(row, behind):
    """Whether the chances of the one row are ahead of those of the other one."""
    return row[0].below(behind[0]) or (row[0] == behind[0] and row[1].below(behind[1]))


def joined(one, other):
    """The least profile that is never worse than either of the two."""
    mine, theirs = two_profiles(one, other)
    bars = bars_of([mine, theirs])
    ends = [bars[0]]
    for low, high in zip(bars, bars[1:]):
        start, end = [height(mine, bar) - height(theirs, bar) for bar in (low, high)]
        ends.extend([*crossing(low, high, start, end), high])
    return bent([(bar, greatest([height(mine, bar), height(theirs, bar)])) for bar in ends], all_days(mine))


def common(one, other):
    """The greatest profile that both are never worse than."""
    mine, theirs = two_profiles(one, other)
    points = [(bar, -least([height(mine, bar), height(theirs, bar)])) for bar in bars_of([mine, theirs])]
    return bent([(bar, -depth) for bar, depth in corners(points)], all_days(mine))


def bent(points, days):
    """The profile of so many days whose heights are on straight lines between points from 0 to 1."""
    slopes = [(end[1] - start[1]).over(end[0] - start[0]) for start, end in zip(points, points[1:])]
    # Before 0 each day adds to the height, behind 1 none does.
    before, after = [-days, *slopes], [*slopes, Ratio(0)]
    rows = [(point[0], late - early) for point, early, late in zip(points, before, after)]
    return [(chance, many) for chance, many in rows if not many == 0]
