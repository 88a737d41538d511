"""Straight lines, and bent ones of such."""

from saidchances.ratios import as_ratio


def crossing(low, high, start, end):
    """The places strictly between two, one or none, where a line from a start to an end passes 0."""
    if (start * end).below(0):
        return [low + (high - low) * start.over(start - end)]
    return []


def corners(points):
    """The points of an ascending list without those on or below a straight line between other ones."""
    found = []
    for point in points:
        while len(found) > 1 and not is_above(found[-2], found[-1], point):
            found.pop()
        found.append(point)
    return found


def is_above(before, point, behind):
    """Whether a point lies above the straight line from a point before it to one behind it."""
    across, up = as_ratio(point[0]) - before[0], as_ratio(point[1]) - before[1]
    far, high = as_ratio(behind[0]) - before[0], as_ratio(behind[1]) - before[1]
    return (across * high).below(far * up)
