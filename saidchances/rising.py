"""Rising functions of what people said: the best one, and what the order of the chances costs."""

from saidchances.actors import is_actor
from saidchances.errors import BadActor
from saidchances.kinds import is_list
from saidchances.ratios import Ratio, as_ratio, is_chance, least
from saidchances.righted import replaced
from saidchances.tallies import check_closed, lost, lost_by_cut, right_rows, share_of, tally_of


def is_rising(value):
    """Whether any value is a list of one or more tuples of two chances that is a rising function."""
    if not is_list(value) or len(value) == 0 or not all([is_step(item) for item in value]):
        return False
    return all([is_rise(one, other) for one, other in zip(value, value[1:])])


def is_step(value):
    """Whether any value is a tuple of two chances."""
    return isinstance(value, tuple) and len(value) == 2 and is_chance(value[0]) and is_chance(value[1])


def is_rise(one, other):
    """Whether the second one of two steps has a greater chance, and no lesser new one."""
    return as_ratio(one[0]).below(other[0]) and not as_ratio(other[1]).below(one[1])


def blocks(record, name):
    """The tuples (chances, share) of the blocks of a person, ascending."""
    check_closed(record, [name])
    return [([row[0] for row in rows], share_of(rows)) for rows in pooled(tally_of(record, name))]


def pooled(rows):
    """The rows of a tally in lists of neighbours, whose shares rise from each list to the next."""
    found = []
    for row in rows:
        block = [row]
        while len(found) > 0 and not share_of(found[-1]).below(share_of(block)):
            block = found.pop() + block
        found.append(block)
    return found


def is_blocks(record, name, value):
    """Whether any value is the list of the blocks of a person."""
    told = blocks(record, name)
    if not is_list(value) or len(value) != len(told):
        return False
    return all([is_block(item, chances, share) for item, (chances, share) in zip(value, told)])


def is_block(value, chances, share):
    """Whether any value is a tuple of a list of these chances and this share."""
    if not isinstance(value, tuple) or len(value) != 2 or not is_list(value[0]):
        return False
    same = len(value[0]) == len(chances) and all([chance == item for chance, item in zip(chances, value[0])])
    return same and share == value[1]


def risen(record, name):
    """The record in which a person said the shares of the blocks."""
    return replaced(record, name, [share for chances, share in blocks(record, name) for _ in chances])


def best_cut(record, name, actor):
    """The least loss for an actor who may take any cut, and a cut by which it comes."""
    check_closed(record, [name])
    if not is_actor(actor):
        raise BadActor(actor)
    rows = tally_of(record, name)
    # The last cut acts on no chance, the others on all chances from one of them on.
    cuts = [*[(row[0], True) for row in rows], (Ratio(1), False)]
    told = [(lost_by_cut(rows, actor[0], cut), cut) for cut in cuts]
    fewest = least([number for number, _ in told])
    return [(number, cut) for number, cut in told if number == fewest][0]


def order_part(record, name, actor):
    """By how much the least loss by cuts is above the loss by the shares."""
    by_cut, _ = best_cut(record, name, actor)
    return by_cut - lost(right_rows(tally_of(record, name)), actor)
