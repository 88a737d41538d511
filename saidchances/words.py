"""Means of what two people say, and what is lost by saying fewer words."""

from saidchances.actors import is_score
from saidchances.errors import BadCount, BadNumber, BadScore, BadWeight
from saidchances.kinds import is_integer
from saidchances.naming import WEATHERS
from saidchances.ratios import Ratio, as_ratio, ascending, greatest, is_number, least, total
from saidchances.records import Record
from saidchances.tallies import check_closed, dry_days, lost_by_score, share_of, tally_of, wet_days


def distance(record, one, other):
    """The sum, over all days, of the square of the difference of what two people said."""
    rows = pairs(record, one, other)
    return total([(mine - theirs) * (mine - theirs) * (wet + dry) for mine, theirs, wet, dry in rows])


def pairs(record, one, other):
    """For each cell of a closed record the chances of two people, and the wet and the dry days."""
    check_closed(record, [one, other])
    people = record.people()
    first, second = people.index(one), people.index(other)
    return [(cell[first], cell[second], *record.days(cell)[:2]) for cell in record.cells()]


def mean(record, one, other, weight):
    """The record of a person who said the mean of what two people said, with a weight of the one."""
    rows = pairs(record, one, other)
    if not is_number(weight) or not Ratio(0).below(weight) or not as_ratio(weight).below(1):
        raise BadWeight(weight)
    lines = []
    for mine, theirs, wet, dry in rows:
        said = [mine * weight + theirs * (Ratio(1) - weight)]
        lines.extend([(said, word, many) for word, many in zip(WEATHERS, (wet, dry)) if many > 0])
    return Record(["mean"], lines)


def best_weight(record, one, other):
    """The least weight of the one by which the mean has the least squares."""
    apart = distance(record, one, other)
    if apart == 0:
        return Ratio(0)
    # The squares of the mean are those of a parabola, whose lowest place is here.
    pull = total([
        (mine - theirs) * (Ratio(wet) - theirs * (wet + dry)) for mine, theirs, wet, dry in pairs(record, one, other)
    ])
    return greatest([0, least([1, pull.over(apart)])])


def few_words(record, name, most, score):
    """The least loss for a score that comes of so many lots of chances, and such lots."""
    check_closed(record, [name])
    if not is_integer(most) or most < 1:
        raise BadCount(most)
    if not is_score(score):
        raise BadScore(score)
    ways = best_lots(tally_of(record, name), score)
    return ways[min(most, len(ways)) - 1]


def words_needed(record, name, score, bound):
    """The least number of lots by which the loss for a score is at most a bound, or None."""
    check_closed(record, [name])
    if not is_score(score):
        raise BadScore(score)
    if not is_number(bound):
        raise BadNumber(bound)
    for most, (number, _) in enumerate(best_lots(tally_of(record, name), score), start=1):
        if not as_ratio(bound).below(number):
            return most
    return None


def best_lots(rows, score):
    """The tuples (loss, lots) of the least loss by at most one lot, two, and so forth, to one for each chance."""
    ordered = by_share(rows)
    ends = range(1, len(ordered) + 1)
    losses = {(start, end): lost_by_lot(ordered[start:end], score) for end in ends for start in range(end)}
    # For each number of the first rows the least loss, and where its lots start and end.
    found = [(losses[(0, end)], [(0, end)]) for end in ends]
    ways = [found[-1]]
    for _ in ordered[1:]:
        before = [(Ratio(0), []), *found]
        found = [best_end(before[:end], losses, end) for end in ends]
        ways.append(found[-1])
    return [(number, [chances_of(ordered[start:end]) for start, end in lots]) for number, lots in ways]


def best_end(before, losses, end):
    """The least loss of the rows up to an end, whose last lot follows on what is told of some of the rows before."""
    found = [(number + losses[(start, end)], [*lots, (start, end)]) for start, (number, lots) in enumerate(before)]
    fewest = least([number for number, _ in found])
    return [way for way in found if way[0] == fewest][0]


def by_share(rows):
    """The rows of a tally, ascending by their shares."""
    told = ascending([(share_of([row]), row[0]) for row in rows])
    return [row for _, chance in told for row in rows if row[0] == chance]


def lost_by_lot(rows, score):
    """What a score loses by the share of all days of some rows."""
    return lost_by_score([(share_of(rows), wet_days(rows), dry_days(rows))], score)


def chances_of(rows):
    """The chances of some rows, ascending."""
    return [row[0] for row in ascending([(row[0],) for row in rows])]
