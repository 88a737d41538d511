"""Tallies: lists of tuples (chance, wet, dry), all that the losses of a person depend on."""

from saidchances.errors import OpenDays, UnknownName
from saidchances.ratios import Ratio, as_ratio, ascending, total


def check_closed(record, names):
    """Refuses a record with open days, and then names of nobody in it."""
    if not record.closed():
        raise OpenDays()
    people = record.people()
    for name in names:
        if name not in people:
            raise UnknownName(name)


def tally_of(record, name):
    """On how many wet and how many dry days a person said each chance, ascending."""
    rows = []
    for chance in record.said(name):
        wet, dry, _ = record.counts(name, chance)
        rows.append((chance, wet, dry))
    return rows


def wet_days(rows):
    """The number of all wet days of a tally."""
    return sum([wet for _, wet, _ in rows])


def dry_days(rows):
    """The number of all dry days of a tally."""
    return sum([dry for _, _, dry in rows])


def share_of(rows):
    """The share of the wet days among all days of a tally."""
    wet = wet_days(rows)
    return Ratio(wet, wet + dry_days(rows))


def right_rows(rows):
    """A tally with the share of each chance in its place."""
    return [(share_of([row]), row[1], row[2]) for row in rows]


def bars_of(tallies):
    """The bars 0, 1, and all chances of some tallies, ascending, each once."""
    said = [(row[0],) for rows in tallies for row in rows]
    return [row[0] for row in ascending([(Ratio(0),), (Ratio(1),), *said])]


def is_acting(actor, chance):
    """Whether an actor acts on a chance."""
    bar, acts = actor
    return as_ratio(bar).below(chance) or (acts and as_ratio(bar) == chance)


def lost(rows, actor):
    """What an actor loses in all by acting on what a tally says."""
    return lost_by_cut(rows, actor[0], actor)


def lost_by_cut(rows, bar, cut):
    """What is lost by a bar in acting as another actor, the cut, does on what a tally says."""
    dry = total([row[2] for row in rows if is_acting(cut, row[0])])
    wet = total([row[1] for row in rows if not is_acting(cut, row[0])])
    return as_ratio(bar) * dry + (Ratio(1) - bar) * wet


def lost_by_score(rows, score):
    """What a score loses by what a tally says."""
    return total([lost(rows, actor) * weight for actor, weight in score])


def squares_of(rows):
    """The sum of the squares of how far a tally is off, over all days."""
    return total([(chance - 1) * (chance - 1) * wet + chance * chance * dry for chance, wet, dry in rows])
