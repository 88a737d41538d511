"""Actors, who act on chances from a bar on, and what they lose and gain by what a person says."""

from saidchances.errors import BadActor, BadChance, BadGains, BadScore
from saidchances.kinds import is_list
from saidchances.ratios import Ratio, as_ratio, is_chance, is_number, total
from saidchances.tallies import check_closed, is_acting, lost, lost_by_score, squares_of, tally_of


def is_actor(value):
    """Whether any value is an actor: a tuple of a chance and True or False."""
    return isinstance(value, tuple) and len(value) == 2 and is_chance(value[0]) and isinstance(value[1], bool)


def is_score(value):
    """Whether any value is a score: a list of one or more tuples of an actor and a weight."""
    return is_list(value) and len(value) > 0 and all([is_weighted(item) for item in value])


def is_weighted(value):
    """Whether any value is a tuple of an actor and a weight above 0."""
    if not isinstance(value, tuple) or len(value) != 2 or not is_actor(value[0]):
        return False
    return is_number(value[1]) and Ratio(0).below(value[1])


def acts_on(actor, chance):
    """Whether an actor acts on a chance."""
    if not is_actor(actor):
        raise BadActor(actor)
    if not is_chance(chance):
        raise BadChance(chance)
    return is_acting(actor, chance)


def loss(record, name, actor):
    """The loss of a person for an actor."""
    check_closed(record, [name])
    if not is_actor(actor):
        raise BadActor(actor)
    return lost(tally_of(record, name), actor)


def score_loss(record, name, score):
    """The loss of a person for a score."""
    check_closed(record, [name])
    if not is_score(score):
        raise BadScore(score)
    return lost_by_score(tally_of(record, name), score)


def squares(record, name):
    """The sum, over all days, of the square of the chance said, less 1 on wet days."""
    check_closed(record, [name])
    return squares_of(tally_of(record, name))


def is_gains(value):
    """Whether any value is a list of gains."""
    if not is_list(value) or len(value) != 4 or not all([is_number(item) for item in value]):
        return False
    wet_acting, wet_idle, dry_acting, dry_idle = value
    return as_ratio(wet_idle).below(wet_acting) and as_ratio(dry_acting).below(dry_idle)


def actor_of(gains, acts):
    """The actor, with the told way at its bar, and the factor of its losses that stand for gains."""
    if not is_gains(gains):
        raise BadGains(gains)
    wet_acting, wet_idle, dry_acting, dry_idle = [as_ratio(item) for item in gains]
    missed, wasted = wet_acting - wet_idle, dry_idle - dry_acting
    # The factor times the bar is what acting wastes on a dry day, the rest what idling misses on a wet one.
    factor = missed + wasted
    return (wasted.over(factor), acts), factor


def gain(record, name, gains, acts):
    """What somebody with these gains gains by acting on what a person says."""
    check_closed(record, [name])
    actor, _ = actor_of(gains, acts)
    return total([gained(gains, row, is_acting(actor, row[0])) for row in tally_of(record, name)])


def gained(gains, row, acting):
    """What is gained on the days of a row of a tally, by acting on them or not."""
    wet_acting, wet_idle, dry_acting, dry_idle = [as_ratio(item) for item in gains]
    _, wet, dry = row
    if acting:
        return wet_acting * wet + dry_acting * dry
    return wet_idle * wet + dry_idle * dry
