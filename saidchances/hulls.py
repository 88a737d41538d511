"""Hits and false alarms of somebody who acts on the greater chances, and the hull above them."""

from saidchances.errors import BadChance, BadNumber
from saidchances.lines import corners
from saidchances.ratios import Ratio, as_ratio, is_chance, is_number, least, total
from saidchances.tallies import check_closed, dry_days, tally_of, wet_days


def alarms(record, name):
    """The tuples (false, hits) from acting never, on to acting on all chances, the greatest ones first."""
    check_closed(record, [name])
    rows = tally_of(record, name)
    tails = [rows[at:] for at in range(len(rows) + 1)]
    return [(dry_days(tail), wet_days(tail)) for tail in reversed(tails)]


def hull(record, name):
    """The corners of the least bent line above the points of `alarms`."""
    return corners(alarms(record, name))


def hull_height(record, name, false):
    """The greatest number of hits that comes with so many false alarms by mixtures of points."""
    points = hull(record, name)
    if not is_number(false) or as_ratio(false).below(0) or Ratio(points[-1][0]).below(false):
        raise BadNumber(false)
    pieces = [(start, end) for start, end in zip(points, points[1:]) if not as_ratio(false).below(start[0])]
    start, end = pieces[-1]
    # Only the first piece can be upright; it is the last one here if there are no dry days.
    if start[0] == end[0]:
        return Ratio(end[1])
    return Ratio(end[1] - start[1], end[0] - start[0]) * (as_ratio(false) - start[0]) + start[1]


def least_by_hull(record, name, bar):
    """The least of the losses of all corners for a bar."""
    points = hull(record, name)
    if not is_chance(bar):
        raise BadChance(bar)
    wet = points[-1][1]
    return least([as_ratio(bar) * false + (Ratio(1) - bar) * (wet - hits) for false, hits in points])


def ranked(record, name):
    """For how many pairs of a wet and a dry day the chance was greater on the wet one, the same, and less."""
    check_closed(record, [name])
    rows = tally_of(record, name)
    pairs = [(low, high) for at, high in enumerate(rows) for low in rows[:at]]
    greater = sum([high[1] * low[2] for low, high in pairs])
    less = sum([low[1] * high[2] for low, high in pairs])
    return greater, sum([wet * dry for _, wet, dry in rows]), less


def alarm_area(record, name):
    """The area under the line through the points of `alarms`."""
    return area_below(alarms(record, name))


def hull_area(record, name):
    """The area under the hull."""
    return area_below(hull(record, name))


def area_below(points):
    """The area under the line through some points."""
    return total([
        Ratio((end[0] - start[0]) * (start[1] + end[1]), 2) for start, end in zip(points, points[1:])
    ])
