"""Outcomes by which all people come true, and stakes that gain for sure where there are none."""

from saidchances.claims import by_person, cheapest, claims_of, days_of, missing, nearest, rows_of
from saidchances.errors import BadCells, BadStakes, NoOutcomes
from saidchances.kinds import is_list
from saidchances.ratios import Ratio, as_ratio, is_number, least, total
from saidchances.records import is_row, key_of


def outcomes(record):
    """Outcomes by which all people come true, or None."""
    distance, found, _ = nearest(record)
    return found if distance == 0 else None


def is_outcomes(record, value):
    """Whether any value is outcomes by which all people come true."""
    if not is_within(record, value):
        return False
    return all([lack == 0 for lack in missing(claims_of(record), value)])


def is_within(record, value):
    """Whether any value is outcomes, by which people may come true or not."""
    days = days_of(record)
    if not is_list(value) or len(value) != len(days) or not all([is_number(item) for item in value]):
        return False
    return all([
        not as_ratio(item).below(wet) and not Ratio(wet + untold).below(item)
        for item, (wet, _, untold) in zip(value, days)
    ])


def sure_gain(record, stakes):
    """The sure gain of stakes."""
    if not is_stakes(record, stakes):
        raise BadStakes(stakes)
    claims = claims_of(record)
    flat = [as_ratio(stake) for row in stakes for stake in row]
    price = total([stake * due for stake, (_, _, due) in zip(flat, claims)])
    gains = []
    for at, (wet, _, untold) in enumerate(days_of(record)):
        tickets = total([stake for stake, (inside, _, _) in zip(flat, claims) if at in inside])
        gains.append(tickets * wet + least([tickets, 0]) * untold)
    return total(gains) - price


def is_stakes(record, value):
    """Whether any value is stakes of a record."""
    people = record.people()
    if not is_list(value) or len(value) != len(people):
        return False
    return all([is_numbers(row, len(record.said(name))) for name, row in zip(people, value)])


def is_numbers(value, count):
    """Whether any value is a list of so many numbers."""
    return is_list(value) and len(value) == count and all([is_number(item) for item in value])


def winning_stakes(record):
    """Stakes with a sure gain above 0, or None if all people come true by some outcomes."""
    distance, _, stakes = nearest(record)
    return None if distance == 0 else by_person(record, stakes)


def is_winning(record, value):
    """Whether any value is stakes with a sure gain above 0."""
    return is_stakes(record, value) and Ratio(0).below(sure_gain(record, value))


def least_wet(record, cells):
    """The least number of wet days of some cells together, and outcomes that have it."""
    chosen = chosen_of(record, cells)
    fewest = [wet for wet, _, _ in days_of(record)]
    found = shortest(record, chosen, missing(claims_of(record), fewest))
    numbers = [more + wet for more, wet in zip(found, fewest)]
    return sum_of(chosen, numbers), numbers


def most_wet(record, cells):
    """The greatest number of wet days of some cells together, and outcomes that have it."""
    chosen = chosen_of(record, cells)
    most = [wet + untold for wet, _, untold in days_of(record)]
    # Were all open days wet, the claims would have too much: as few open days as can be are dry instead.
    found = shortest(record, chosen, [-lack for lack in missing(claims_of(record), most)])
    numbers = [-less + wet for less, wet in zip(found, most)]
    return sum_of(chosen, numbers), numbers


def shortest(record, chosen, lacks):
    """Open days of all cells, as few as can be of those chosen, by which each claim gets what it lacks."""
    days = days_of(record)
    rooms = [untold for _, _, untold in days]
    found = cheapest(rows_of(claims_of(record), len(days)), lacks, rooms, chosen)
    if found is None:
        raise NoOutcomes()
    return found


def chosen_of(record, cells):
    """For each cell of a record 1 if it is one of the cells of a list, and 0 otherwise."""
    if not is_list(cells) or not all([is_row(cell) for cell in cells]):
        raise BadCells(cells)
    asked = [key_of(cell) for cell in cells]
    chosen = [int(key_of(cell) in asked) for cell in record.cells()]
    # A cell that is not in the record, or a doubled one, is one more than those that are chosen.
    if sum(chosen) != len(asked):
        raise BadCells(cells)
    return chosen


def sum_of(chosen, numbers):
    """The sum of the numbers that are chosen."""
    return total([number for mark, number in zip(chosen, numbers) if mark == 1])


def heard(record, cell):
    """Between which chances rain must have been likely where people said the chances of a cell."""
    days = sum(record.days(cell))
    return least_wet(record, [cell])[0].over(days), most_wet(record, [cell])[0].over(days)
