"""Closed records, and what comes of them day by day, told with Python's own fractions."""

from fractions import Fraction
from itertools import product
from random import Random

from saidchances.ratios import Ratio
from saidchances.records import Record

NAMES = ["ann", "bob", "cid"]


def fraction(number):
    """The same number in Python's own terms."""
    return Fraction(number.top, number.bottom) if isinstance(number, Ratio) else Fraction(number)


def ratio(number):
    """The same number as a Ratio."""
    return Ratio(Fraction(number).numerator, Fraction(number).denominator)


def fractions(value):
    """A value with all Ratios in its lists and tuples as Python's own fractions."""
    if isinstance(value, (list, tuple)):
        return type(value)(fractions(item) for item in value)
    return fraction(value) if isinstance(value, Ratio) else value


def given(random, number):
    """A number as a caller may pass it: an integer, or a Ratio."""
    if Fraction(number).denominator == 1 and random.random() < 0.5:
        return int(number)
    return ratio(number)


def random_days(random, names, cells):
    """A list with a tuple (said, wet) for each day, where said are chances by the names."""
    bottom = random.choice([1, 2, 3, 4, 6, 8])
    chances = random.sample([Fraction(top, bottom) for top in range(bottom + 1)], min(bottom + 1, random.randint(1, 5)))
    days = []
    for _ in range(cells):
        said = {name: random.choice(chances) for name in names}
        days += [(said, random.random() < 0.5)] * random.randint(1, 3)
    return days


def record_of(random, days):
    """The record of days, its people and lines in any order."""
    names = list(days[0][0])
    random.shuffle(names)
    lines = [([given(random, said[name]) for name in names], "wet" if wet else "dry", 1) for said, wet in days]
    random.shuffle(lines)
    return Record(names, lines)


def random_records(seed, many, people=(1, 2, 3), cells=8):
    """Tuples (record, days) of many closed records, the same ones for the same seed."""
    random = Random(seed)
    for _ in range(many):
        days = random_days(random, NAMES[:random.choice(people)], random.randint(1, cells))
        yield record_of(random, days), days


def acted(chance, bar, acts):
    """Whether an actor acts on a chance."""
    return chance >= bar if acts else chance > bar


def day_loss(chance, wet, bar, acts):
    """What an actor loses on a day on which a chance is said."""
    if wet:
        return 0 if acted(chance, bar, acts) else 1 - bar
    return bar if acted(chance, bar, acts) else Fraction(0)


def lost_on(days, name, bar, acts):
    """What an actor loses in all by acting on what a person says."""
    return sum((day_loss(said[name], wet, bar, acts) for said, wet in days), Fraction(0))


def counted(days, name):
    """The tuples (chance, wet, dry) of all chances of a person, ascending."""
    return [
        (chance, sum(said[name] == chance and wet for said, wet in days),
         sum(said[name] == chance and not wet for said, wet in days))
        for chance in sorted({said[name] for said, _ in days})
    ]


def bars_near(days):
    """Bars at, between and beside all chances said, from 0 to 1."""
    ends = sorted({Fraction(0), Fraction(1)} | {chance for said, _ in days for chance in said.values()})
    between = [low + (high - low) * part for low, high in zip(ends, ends[1:]) for part in (Fraction(1, 3), Fraction(4, 7))]
    return sorted(ends + between)


def as_days(record):
    """The days of a closed record."""
    names = record.people()
    days = []
    for cell in record.cells():
        said = dict(zip(names, fractions(cell)))
        wet, dry, _ = record.days(cell)
        days += [(said, True)] * wet + [(said, False)] * dry
    return days


def random_lines(random, names, cells, most=3, chances=None):
    """Lines (said by name, weather, days) of all three weathers."""
    if chances is None:
        bottom = random.choice([1, 2, 2, 3, 4, 4])
        chances = [Fraction(top, bottom) for top in range(bottom + 1)]
    lines = []
    for _ in range(cells):
        said = {name: random.choice(chances) for name in names}
        for weather in random.sample(["wet", "dry", "open", "open"], random.randint(1, 3)):
            lines.append((said, weather, random.randint(1, most)))
    return lines


def record_by(random, lines):
    """The record of lines as random_lines tells them, people and lines in any order."""
    names = list(lines[0][0])
    random.shuffle(names)
    rows = [([given(random, said[name]) for name in names], weather, days) for said, weather, days in lines]
    random.shuffle(rows)
    return Record(names, rows)


def hidden_lines(random, names, cells, most=4, keep=0.4, wets=(0, 1), marks=None):
    """Lines by which all people come true, by outcomes that are partly told: the chances are what came of the days."""
    drawn = [[random.randrange(marks or max(1, cells // 2)) for _ in names] for _ in range(cells)]
    days = [(tuple(mark), random.choice(wets)) for mark in drawn for _ in range(random.randint(1, most))]
    shares = []
    for place, _ in enumerate(names):
        found = {}
        for mark, wet in days:
            found.setdefault(mark[place], []).append(wet)
        shares.append({mark: Fraction(sum(told), len(told)) for mark, told in found.items()})
    lines = []
    for mark, wet in days:
        said = {name: shares[place][mark[place]] for place, name in enumerate(names)}
        told = wet in (0, 1) and random.random() < keep
        lines.append((said, ["dry", "wet"][wet] if told else "open", 1))
    return lines


def cells_of(record):
    """Tuples (cell, wet, dry, open) of a record, with Python's own fractions."""
    return [(fractions(cell), *record.days(cell)) for cell in record.cells()]


def dues_by(record):
    """What is due, by the place of a person and a chance."""
    found = {}
    for cell, wet, dry, untold in cells_of(record):
        for place, chance in enumerate(cell):
            found[(place, chance)] = found.get((place, chance), 0) + chance * (wet + dry + untold)
    return found


def sums_by(record, outcomes):
    """What outcomes sum to, by the place of a person and a chance."""
    found = {}
    for (cell, *_), number in zip(cells_of(record), outcomes):
        for place, chance in enumerate(cell):
            found[(place, chance)] = found.get((place, chance), 0) + number
    return found


def all_whole(record):
    """All outcomes in whole days by which all come true, cell by cell."""
    ranges = [range(wet, wet + untold + 1) for _, wet, _, untold in cells_of(record)]
    dues = dues_by(record)
    return [list(many) for many in product(*ranges) if sums_by(record, many) == dues]


def solution(claims, fixed, free):
    """The only numbers for free cells by which the claims (cells, due) come true, or None; the others are fixed."""
    rows = []
    for inside, due in claims:
        rest = due - sum(fixed[at] for at in inside if at in fixed)
        rows.append([Fraction(at in inside) for at in free] + [Fraction(rest)])
    for column in range(len(free)):
        at = next((at for at in range(column, len(rows)) if rows[at][column]), None)
        if at is None:
            return None
        rows[column], rows[at] = rows[at], rows[column]
        rows[column] = [number / rows[column][column] for number in rows[column]]
        for other in range(len(rows)):
            if other != column and rows[other][column]:
                times = rows[other][column]
                rows[other] = [mine - times * theirs for mine, theirs in zip(rows[other], rows[column])]
    if any(row[-1] for row in rows[len(free):]):
        return None
    return {at: rows[place][-1] for place, at in enumerate(free)}


def ends_between(record, marks):
    """All outcomes by which all come true, and which are told by the cells that have one of their marks."""
    cells = cells_of(record)
    claims = [
        ([at for at, (cell, *_) in enumerate(cells) if cell[place] == chance], due)
        for (place, chance), due in dues_by(record).items()
    ]
    found = set()
    for chosen in product(*[[None, *sorted(set(told))] for told in marks]):
        fixed = {at: Fraction(mark) for at, mark in enumerate(chosen) if mark is not None}
        free = [at for at in range(len(cells)) if at not in fixed]
        told = solution(claims, fixed, free)
        if told is not None:
            numbers = tuple({**fixed, **told}[at] for at in range(len(cells)))
            if all(min(ends) <= number <= max(ends) for number, ends in zip(numbers, marks)):
                found.add(numbers)
    return sorted(found)


def corners_of(record):
    """The corners of all outcomes by which all people come true."""
    return ends_between(record, [(wet, wet + untold) for _, wet, _, untold in cells_of(record)])


def gain_by(record, stakes):
    """The sure gain of stakes, day by day."""
    said = [sorted({cell[place] for cell, *_ in cells_of(record)}) for place in range(len(stakes))]
    tables = [dict(zip(chances, row)) for chances, row in zip(said, stakes)]
    gain = Fraction(0)
    for cell, wet, dry, untold in cells_of(record):
        tickets = [(tables[place][chance], chance) for place, chance in enumerate(cell)]
        if_dry = -sum(many * chance for many, chance in tickets)
        if_wet = if_dry + sum(many for many, _ in tickets)
        gain += if_wet * wet + if_dry * dry + min(if_wet, if_dry) * untold
    return gain


def random_weather(seed, many, people=(1, 2, 3), cells=5, most=3):
    """Records by which people come true, and such by which they may not; open, closed, and between."""
    random = Random(seed)
    for _ in range(many):
        names = NAMES[:random.choice(people)]
        if random.random() < 0.5:
            wets = random.choice([[0, 1], [0, 1], [0, Fraction(1, 3), 1]])
            keep = random.choice([0, 0.3, 0.7, 1])
            lines = hidden_lines(random, names, random.randint(1, cells), most, keep, wets)
        else:
            lines = random_lines(random, names, random.randint(1, cells), most)
            if random.random() < 0.3:
                lines = [(said, random.choice(["wet", "dry"]), days) for said, _, days in lines]
        yield record_by(random, lines)
