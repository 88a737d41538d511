"""Chances put right: the shares of the wet days on which they were said, and what is lost without them."""

from saidchances.actors import is_actor, is_score
from saidchances.errors import BadActor, BadPairs, BadScore
from saidchances.kinds import is_list
from saidchances.naming import WEATHERS
from saidchances.ratios import is_chance
from saidchances.records import Record
from saidchances.tallies import (
    check_closed, dry_days, lost, lost_by_score, right_rows, share_of, squares_of, tally_of, wet_days,
)


def shares(record, name):
    """The tuples (chance, share) of all chances that a person said, ascending."""
    check_closed(record, [name])
    return [(row[0], share_of([row])) for row in tally_of(record, name)]


def reliable(record, name):
    """Whether each share of a person is the chance itself."""
    return len(unreliable(record, name)) == 0


def unreliable(record, name):
    """The chances whose shares are others, ascending."""
    return [chance for chance, share in shares(record, name) if share != chance]


def led(record, name, pairs):
    """The record in which a person said the new chances of a function of what the person said."""
    check_closed(record, [name])
    if not is_function(pairs, record.said(name)):
        raise BadPairs(pairs)
    return replaced(record, name, [new for _, new in pairs])


def put_right(record, name):
    """The record in which a person said the shares."""
    return replaced(record, name, [share for _, share in shares(record, name)])


def is_function(value, said):
    """Whether any value is a function of these chances."""
    if not is_list(value) or len(value) != len(said):
        return False
    return all([is_pair(item, chance) for item, chance in zip(value, said)])


def is_pair(value, chance):
    """Whether any value is a tuple of this chance and a new one."""
    return isinstance(value, tuple) and len(value) == 2 and chance == value[0] and is_chance(value[1])


def replaced(record, name, news):
    """The record in which a person said new chances in the place of those said, in the same order."""
    people, said = record.people(), record.said(name)
    place = people.index(name)
    lines = []
    for cell in record.cells():
        row = list(cell)
        row[place] = news[said.index(cell[place])]
        lines.extend([(row, word, days) for word, days in zip(WEATHERS, record.days(cell)) if days > 0])
    return Record(people, lines)


def parts(record, name, actor):
    """The parts (unknown, told, wrong) of the loss of a person for an actor."""
    check_closed(record, [name])
    if not is_actor(actor):
        raise BadActor(actor)
    return parts_of([lost(rows, actor) for rows in three_tallies(record, name)])


def score_parts(record, name, score):
    """The parts (unknown, told, wrong) of the loss of a person for a score."""
    check_closed(record, [name])
    if not is_score(score):
        raise BadScore(score)
    return parts_of([lost_by_score(rows, score) for rows in three_tallies(record, name)])


def square_parts(record, name):
    """The parts (unknown, told, wrong) of the squares of a person."""
    check_closed(record, [name])
    return parts_of([squares_of(rows) for rows in three_tallies(record, name)])


def three_tallies(record, name):
    """The tallies with the share of all days in the place of each chance, with its own share, and as said."""
    rows = tally_of(record, name)
    even = [(share_of(rows), wet_days(rows), dry_days(rows))]
    return [even, right_rows(rows), rows]


def parts_of(losses):
    """The parts of the last one of three losses: by the even, the righted and the said chances."""
    even, righted, said = losses
    return even, even - righted, said - righted
