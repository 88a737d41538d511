"""Two people whose weather is not all told: what bars that both come true, and whole days by which they do."""

from math import lcm

from saidchances.errors import NotTwo
from saidchances.flows import filled, reached
from saidchances.kinds import is_integer, is_list
from saidchances.ratios import Ratio, total

SOURCE = 0
SINK = 1
# The numbers of the chances of two people, as nodes of a net, stand behind these two.
FIRST = 2


def check_two(record):
    """Refuses a record with another number of people than two."""
    count = len(record.people())
    if count != 2:
        raise NotTwo(count)


def barring(record):
    """A tuple (name, mine, theirs) that bars the record, or None."""
    check_two(record)
    for name in record.people():
        told = most_barring(record, name)
        if is_barring(record, told):
            return told
    return None


def is_barring(record, value):
    """Whether any value is a tuple (name, mine, theirs) that bars the record."""
    check_two(record)
    if not isinstance(value, tuple) or len(value) != 3 or value[0] not in record.people():
        return False
    name, mine, theirs = value
    other = other_than(record, name)
    if not is_choice(mine, record.said(name)) or not is_choice(theirs, record.said(other)):
        return False
    due = total([record.due(name, chance) for chance in mine])
    owed = total([record.due(other, chance) for chance in theirs])
    return Ratio(room(record, name, mine, theirs)).below(due - owed)


def other_than(record, name):
    """The name of the other one of two people."""
    return [told for told in record.people() if told != name][0]


def is_choice(value, said):
    """Whether any value is a list of different ones of the chances said."""
    # An item that was not said, or one that is doubled, is one more than the chances that are found.
    return is_list(value) and len([chance for chance in said if chance in value]) == len(value)


def room(record, name, mine, theirs):
    """The most that the days let the one have above the other one, for these chances of both."""
    place = record.people().index(name)
    most = 0
    for cell in record.cells():
        wet, _, untold = record.days(cell)
        inside, outside = cell[place] in mine, cell[1 - place] in theirs
        if inside and not outside:
            most += wet + untold
        if outside and not inside:
            most -= wet
    return most


def most_barring(record, name):
    """The tuple (name, mine, theirs) for which most is missing, or least left over, of what the days let."""
    other = other_than(record, name)
    mine, theirs = record.said(name), record.said(other)
    # What is missing for chances of both is what a cut of the net has more room than all that ought to
    # flow: so most is missing at the cut that the flow finds.
    rooms = net(record, name, scale_of(record))
    found = reached(filled(rooms, SOURCE, SINK), SOURCE)
    ahead = [chance for at, chance in enumerate(mine) if FIRST + at in found]
    behind = [chance for at, chance in enumerate(theirs) if FIRST + len(mine) + at in found]
    return (name, ahead, behind)


def dues_of(record):
    """What is due to each person and chance."""
    return [record.due(name, chance) for name in record.people() for chance in record.said(name)]


def scale_of(record):
    """The least number that makes all that is due whole."""
    scale = 1
    for due in dues_of(record):
        scale = lcm(scale, due.bottom)
    return scale


def net(record, name, scale):
    """The rooms of a net: from a chance of the one to one of the other, the open days of their cell."""
    other = other_than(record, name)
    mine, theirs = record.said(name), record.said(other)
    place = record.people().index(name)
    rooms = {}
    for cell in record.cells():
        start, end = mine.index(cell[place]), theirs.index(cell[1 - place])
        rooms[(FIRST + start, FIRST + len(mine) + end)] = record.days(cell)[2] * scale
    for at, chance in enumerate(mine):
        add_end(rooms, FIRST + at, lacking(record, name, chance, scale))
    for at, chance in enumerate(theirs):
        add_end(rooms, FIRST + len(mine) + at, -lacking(record, other, chance, scale))
    return rooms


def lacking(record, name, chance, scale):
    """How much of what is due the wet days leave, so many times over."""
    return (record.due(name, chance) * scale).top - record.counts(name, chance)[0] * scale


def add_end(rooms, node, many):
    """Adds the pipe by which a node gets so much from the source, or gives it to the sink if below 0."""
    if many > 0:
        rooms[(SOURCE, node)] = many
    if many < 0:
        rooms[(node, SINK)] = -many


def whole_outcomes(record):
    """Outcomes in whole days by which both people come true, or None."""
    check_two(record)
    if scale_of(record) != 1:
        return None
    name, other = record.people()
    mine, theirs = record.said(name), record.said(other)
    left = filled(net(record, name, 1), SOURCE, SINK)
    found = []
    for cell in record.cells():
        start, end = FIRST + mine.index(cell[0]), FIRST + len(mine) + theirs.index(cell[1])
        # The room for flowing back is what flows.
        found.append(record.days(cell)[0] + left[(end, start)])
    return found if is_whole_outcomes(record, found) else None


def is_whole_outcomes(record, value):
    """Whether any value is a list of whole days by which both people come true."""
    check_two(record)
    spans = spans_of(record)
    if not is_list(value) or len(value) != len(spans) or not all([is_integer(item) for item in value]):
        return False
    if not all([low <= many <= high for (_, _, low, high), many in zip(spans, value)]):
        return False
    sums = [
        sum([many for (one, other, _, _), many in zip(spans, value) if line in (one, other)])
        for line in range(len(dues_of(record)))
    ]
    return all([due == reached_sum for due, reached_sum in zip(dues_of(record), sums)])


def spans_of(record):
    """For each cell a tuple (one, other, low, high): the numbers of its chances in `dues_of`, and its ends."""
    name, second = record.people()
    mine, theirs = record.said(name), record.said(second)
    spans = []
    for cell in record.cells():
        wet, _, untold = record.days(cell)
        spans.append((mine.index(cell[0]), len(mine) + theirs.index(cell[1]), wet, wet + untold))
    return spans


def whole_ways(record):
    """The number of different whole outcomes by which both people come true."""
    check_two(record)
    if scale_of(record) != 1:
        return 0
    spans = spans_of(record)
    # For each list of what is left to come for each chance, the ways that lead there.
    ways = {tuple([due.top for due in dues_of(record)]): 1}
    for at, span in enumerate(spans):
        ways = ways_on(ways, span, spans[at + 1:])
    return sum(ways.values())


def ways_on(ways, span, later):
    """The ways once the days of one more cell are wet, so far as the later cells can make up the rest."""
    one, other, low, high = span
    ends = [(line, *left_over(line, later)) for line in (one, other)]
    found = {}
    for left in ways:
        first = max([low, *[left[line] - most for line, _, most in ends]])
        last = min([high, *[left[line] - fewest for line, fewest, _ in ends]])
        for many in range(first, last + 1):
            rest = tuple([number - many if line in (one, other) else number for line, number in enumerate(left)])
            found[rest] = found.get(rest, 0) + ways[left]
    return found


def left_over(line, later):
    """The fewest and the most wet days that the later cells of a chance can have."""
    rows = [(low, high) for one, other, low, high in later if line in (one, other)]
    return sum([low for low, _ in rows]), sum([high for _, high in rows])
