"""The kinds of builtin values that several files judge."""


def is_integer(value):
    """Whether any value is an integer."""
    # True and False are ints for Python, but no integers here.
    return isinstance(value, int) and not isinstance(value, bool)


def is_list(value):
    """Whether any value may stand for a list."""
    return isinstance(value, (list, tuple))
