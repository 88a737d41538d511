"""Curves: the losses of a person for all actors."""

from saidchances.actors import is_actor
from saidchances.errors import BadActor, BadChance
from saidchances.ratios import Ratio, as_ratio, greatest, is_chance, least, total
from saidchances.tallies import bars_of, check_closed, lost, tally_of


def curve(record, name):
    """The tuples (bar, acting, waiting) of the losses at 0, 1, and each chance that the person said."""
    check_closed(record, [name])
    rows = tally_of(record, name)
    return [(bar, lost(rows, (bar, True)), lost(rows, (bar, False))) for bar in bars_of([rows])]


def loss_on(points, actor):
    """The loss that a curve tells for an actor."""
    if not is_actor(actor):
        raise BadActor(actor)
    bar, acts = as_ratio(actor[0]), actor[1]
    for point in points:
        if bar == point[0]:
            return as_ratio(point[1] if acts else point[2])
    behind = [piece for piece in pieces(points) if bar.below(piece[1])]
    return height(behind[0], bar)


def pieces(points):
    """Tuples (low, high, start, end) of neighbouring bars of a curve, and the losses next to them in between."""
    rows = [tuple([as_ratio(number) for number in point]) for point in points]
    return [(one[0], other[0], one[2], other[1]) for one, other in zip(rows, rows[1:])]


def height(piece, bar):
    """The loss at a bar on the straight line through a piece, also beyond its ends."""
    low, high, start, end = piece
    return start + (end - start) * (bar - low).over(high - low)


def area(record, name):
    """The area under the curve of a person."""
    return area_between(record, name, 0, 1)


def area_between(record, name, low, high):
    """The area under the curve of a person between two bars."""
    points = curve(record, name)
    if not is_chance(low):
        raise BadChance(low)
    if not is_chance(high) or as_ratio(high).below(low):
        raise BadChance(high)
    return total([area_of(piece, low, high) for piece in pieces(points)])


def area_of(piece, low, high):
    """The area under the part of a piece that lies between two bars."""
    left, right = greatest([piece[0], low]), least([piece[1], high])
    if not left.below(right):
        return Ratio(0)
    return (height(piece, left) + height(piece, right)) * (right - left).over(2)


def told_back(points, wet, dry):
    """The tuples (chance, wet, dry) of all chances that the person with a curve said."""
    # The line of a piece meets the bar 0 at the wet days with chances up to the piece, on which nobody
    # acts, and the bar 1 at the dry days with chances beyond it.
    ends = [(height(piece, Ratio(0)), height(piece, Ratio(1))) for piece in pieces(points)]
    before = [(Ratio(0), as_ratio(dry)), *ends]
    after = [*ends, (as_ratio(wet), Ratio(0))]
    rows = [
        (as_ratio(point[0]), (late[0] - early[0]).top, (early[1] - late[1]).top)
        for point, early, late in zip(points, before, after)
    ]
    return [row for row in rows if row[1] + row[2] > 0]


def worst_bars(record, name):
    """The greatest loss of a person for any actor, and the bars of the curve at which it is reached."""
    points = curve(record, name)
    most = greatest([number for _, acting, waiting in points for number in (acting, waiting)])
    return most, [bar for bar, acting, waiting in points if most == acting or most == waiting]
