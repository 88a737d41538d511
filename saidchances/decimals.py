"""The decimal notation of integers of any size."""

DIGITS = "0123456789"
# Python itself turns integers into texts, and back, only up to a length that can be set from
# outside, and that is never set below 640 digits: so this is done in parts that are far shorter.
WIDTH = 64
STEP = 10 ** 64


def is_digits(text):
    """Whether a string is one or more digits from 0 to 9."""
    return text != "" and all([sign in DIGITS for sign in text])


def notation(integer):
    """The decimal notation of an integer."""
    sign = "-" if integer < 0 else ""
    rest = abs(integer)
    parts = []
    while rest >= STEP:
        rest, part = divmod(rest, STEP)
        parts.append(str(part).zfill(WIDTH))
    parts.append(str(rest))
    return "".join([sign, *parts[::-1]])


def integer_of(digits):
    """The integer with a string of one or more digits."""
    first = len(digits) % WIDTH
    # There may be no digits ahead of the whole parts, hence the nought.
    result = int("0" + digits[:first])
    for at in range(first, len(digits), WIDTH):
        result = result * STEP + int(digits[at:at + WIDTH])
    return result
