"""By how much people must have been wrong at least, and what would have to be changed."""

from saidchances.claims import by_person, cheapest, claims_of, days_of, missing, nearest, rows_of
from saidchances.errors import OpenDays
from saidchances.ratios import Ratio, as_ratio, is_number, total
from saidchances.unseen import is_stakes, is_within, sure_gain


def gap(record):
    """The least gap, outcomes that leave it, and stakes of which at most 1 is at stake, and that surely gain it."""
    number, found, stakes = nearest(record)
    return number, found, by_person(record, stakes)


def is_gap(record, value):
    """Whether any value is a tuple of the least gap, outcomes that leave it, and stakes that gain it."""
    if not isinstance(value, tuple) or len(value) != 3:
        return False
    number, numbers, stakes = value
    if not is_number(number) or not is_within(record, numbers) or not is_stakes(record, stakes):
        return False
    if not is_left(record, numbers, number) or Ratio(1).below(at_stake(record, stakes)):
        return False
    return sure_gain(record, stakes) == number


def is_left(record, numbers, number):
    """Whether outcomes leave a number as a gap."""
    claims = claims_of(record)
    lacks = missing(claims, numbers)
    return not any([(as_ratio(number) * days).below(lack.size()) for lack, (_, days, _) in zip(lacks, claims)])


def at_stake(record, stakes):
    """What is at stake in stakes."""
    flat = [as_ratio(stake) for row in stakes for stake in row]
    return total([stake.size() * days for stake, (_, days, _) in zip(flat, claims_of(record))])


def groups(record):
    """The greatest groups of people who come true together, and the least groups who do not."""
    true, false = [], []
    for group in all_groups(record.people()):
        number, _, _ = nearest(record.of(group))
        if number == 0:
            true.append(group)
        else:
            false.append(group)
    greatest = [one for one in true if not any([is_part(one, other) for other in true])]
    smallest = [one for one in false if not any([is_part(other, one) for other in false])]
    return sorted(greatest), sorted(smallest)


def all_groups(people):
    """All groups of one or more of some people, their names in the order of these."""
    found = [[]]
    for name in people:
        found = [*found, *[[*group, name] for group in found]]
    return [group for group in found if len(group) > 0]


def is_part(one, other):
    """Whether a group is a part of another one."""
    return len(one) < len(other) and all([name in other for name in one])


def changed(record):
    """The least number of days whose weather has to be changed so that all come true, and such outcomes; or None."""
    if not record.closed():
        raise OpenDays()
    claims, days = claims_of(record), days_of(record)
    rows = rows_of(claims, len(days))
    fewer = [[-number for number in row] for row in rows]
    wet, dry = [row[0] for row in days], [row[1] for row in days]
    # What is added to the wet days is asked for first, at most the dry ones, and then what is taken from them.
    found = cheapest([*rows, *fewer], missing(claims, wet), [*dry, *wet], [1 for _ in range(2 * len(days))])
    if found is None:
        return None
    more, less = found[:len(days)], found[len(days):]
    return total(found), [added - taken + many for added, taken, many in zip(more, less, wet)]
