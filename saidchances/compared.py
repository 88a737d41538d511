"""People compared for all actors: who is never worse, and between which bars."""

from saidchances.actors import is_actor
from saidchances.lines import crossing
from saidchances.ratios import ascending, least
from saidchances.tallies import bars_of, check_closed, lost, tally_of


def never_worse(record, one, other):
    """Whether the one loses at most as much as the other one for every actor."""
    return worse_actor(record, one, other) is None


def worse_actor(record, one, other):
    """An actor for which the one loses more than the other one, or None."""
    mine, theirs = two_tallies(record, one, other)
    for bar in bars_of([mine, theirs]):
        for acts in (True, False):
            if is_worse(mine, theirs, (bar, acts)):
                return (bar, acts)
    return None


def is_worse_actor(record, one, other, value):
    """Whether any value is an actor for which the one loses more than the other one."""
    mine, theirs = two_tallies(record, one, other)
    return is_actor(value) and is_worse(mine, theirs, value)


def alike(record, one, other):
    """Whether two people have the same loss for each actor."""
    mine, theirs = two_tallies(record, one, other)
    return mine == theirs


def two_tallies(record, one, other):
    """The tallies of two people of a closed record."""
    check_closed(record, [one, other])
    return [tally_of(record, one), tally_of(record, other)]


def is_worse(mine, theirs, actor):
    """Whether an actor loses more by the first one of two tallies."""
    return lost(theirs, actor).below(lost(mine, actor))


def stretches(record, one, other):
    """The stretches (low, high, word) of bars where the one is better, alike, or worse."""
    tallies = two_tallies(record, one, other)
    found = []
    for low, high in even_parts(tallies):
        mine, theirs = losses_between(tallies, low, high)
        found.append((low, high, word_for(mine, theirs)))
    return put_together(found)


def word_for(mine, theirs):
    """How the first one of two losses compares with the second one."""
    if mine.below(theirs):
        return "better"
    return "worse" if theirs.below(mine) else "alike"


def best_stretches(record):
    """The stretches (low, high, names) of bars, with the names of those who lose least there."""
    check_closed(record, [])
    people = record.people()
    tallies = [tally_of(record, name) for name in people]
    found = []
    for low, high in even_parts(tallies):
        losses = losses_between(tallies, low, high)
        fewest = least(losses)
        found.append((low, high, [name for name, number in zip(people, losses) if number == fewest]))
    return put_together(found)


def never_best(record, name):
    """Whether a person loses least in no stretch."""
    check_closed(record, [name])
    return not any([name in names for _, _, names in best_stretches(record)])


def even_parts(tallies):
    """Neighbouring bars, from 0 to 1, between which no loss of the tallies jumps and no two cross."""
    bars = bars_of(tallies)
    ends = [bars[0]]
    for low, high in zip(bars, bars[1:]):
        ends.extend(crossings(tallies, low, high))
        ends.append(high)
    return list(zip(ends, ends[1:]))


def crossings(tallies, low, high):
    """The bars between two neighbouring ones at which the losses of two tallies cross, ascending."""
    lines = [(lost(rows, (low, False)), lost(rows, (high, True))) for rows in tallies]
    pairs = [(one, other) for at, one in enumerate(lines) for other in lines[at + 1:]]
    found = []
    for one, other in pairs:
        found.extend(crossing(low, high, one[0] - other[0], one[1] - other[1]))
    return [row[0] for row in ascending([(bar,) for bar in found])]


def losses_between(tallies, low, high):
    """The losses of some tallies halfway between two bars."""
    middle = (low + high).over(2)
    return [lost(rows, (middle, True)) for rows in tallies]


def put_together(parts):
    """Tuples (low, high, told) with neighbours that tell the same made one."""
    found = []
    for low, high, told in parts:
        if len(found) > 0 and found[-1][2] == told:
            first, _, _ = found.pop()
            found.append((first, high, told))
        else:
            found.append((low, high, told))
    return found
