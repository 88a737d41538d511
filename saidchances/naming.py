"""Words and weather."""

LETTERS = "abcdefghijklmnopqrstuvwxyz"
LONGEST = 8
WEATHERS = ("wet", "dry", "open")


def is_word(value):
    """Whether any value is a word: a string of 1 to 8 letters from a to z."""
    if not isinstance(value, str) or len(value) < 1 or len(value) > LONGEST:
        return False
    # The letters are listed because methods such as islower let letters beyond a to z pass.
    return all([letter in LETTERS for letter in value])


def is_weather(value):
    """Whether any value is one of the strings wet, dry and open."""
    return isinstance(value, str) and value in WEATHERS
