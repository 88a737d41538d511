"""Values of all kinds that callers may pass where an error can name them."""

from saidchances.ratios import Ratio


def deep(levels):
    value = []
    for _ in range(levels):
        value = [value]
    return value


def odd_values():
    half = Ratio(1, 2)
    return [
        None, True, False, 0, 1, 2, -1, 5, 10 ** 12, -(10 ** 40), 10 ** 900,
        Ratio(0), Ratio(1), half, Ratio(-3, 7), Ratio(5, 4),
        "", "ann", "bob", "eve", "Ann", "wet", "open", "1/2", "people", "people ann", " ", "\n", "x" * 2000,
        [], (), {}, [None], (None,), [True], [0], (0,), [half], (half,), (half, half), [half, half],
        ["ann"], ("ann",), ["ann", "bob"], [["ann"]], ["ann", ["bob"]], [{}, "ann"], ({},), [()], ([],),
        {"ann": 1}, {1: half, ("a", (2, "b")): [None]}, ((half,), "wet", 1), [(half,), "wet", 1],
        ([half], "wet", 1, 1), ([half], "wet"), ([half], ["wet"], 1), ([{}], "wet", 1), (half, "wet", 1),
        deep(2000),
    ]
