"""What the document calls integers, numbers, names and sequences, for any values."""

LETTERS = "abcdefghijklmnopqrstuvwxyz"
DIGITS = "0123456789"
NO_NAMES = ("any", "none", "anew", "lift", "term")
MOST_LETTERS = 4
MOST_DIGITS = 19


def is_integer(value):
    """Whether a value is an integer; True and False are none."""
    return isinstance(value, int) and not isinstance(value, bool)


def is_number(value):
    """Whether a value is an integer from 0 on."""
    return is_integer(value) and value >= 0


def is_count(value):
    """Whether a value is an integer from 1 on."""
    return is_integer(value) and value >= 1


def is_name(value):
    """Whether a value is a name that a kind can have."""
    if not isinstance(value, str) or value in NO_NAMES:
        return False
    return 1 <= len(value) <= MOST_LETTERS and all([sign in LETTERS for sign in value])


def is_sequence(value):
    """Whether a value may be passed where a sequence is expected."""
    return isinstance(value, (list, tuple))


def is_digits(word):
    """Whether a string is the text of a number, 0 included."""
    # Python takes other digits than these ten for digits, too.
    if not 1 <= len(word) <= MOST_DIGITS or not all([sign in DIGITS for sign in word]):
        return False
    return word == "0" or word[0] != "0"
