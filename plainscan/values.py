"""What counts as a number, a sign and a text, whatever value it is asked of."""

from plainscan.errors import InvalidNumber, InvalidText

SMALL_LETTERS = "abcdefghijklmnopqrstuvwxyz"
SMALL_OR_FIGURES = "abcdefghijklmnopqrstuvwxyz0123456789"
SIGNS = " !\"#$&'()*+,-./0123456789:;<=>?@ABCDEFGHIJKLMNOPQRSTUVWXYZ[\\]^_`abcdefghijklmnopqrstuvwxyz{|}~"
MOST_SIGNS = 200
MOST_ASKED = 40


def is_number(value, low, high):
    """Whether a value is a whole number from low to high; True and False are none."""
    return type(value) is int and low <= value <= high


def is_count(value):
    """Whether a value is a whole number from 0 on."""
    return type(value) is int and value >= 0


def is_from_one(value):
    """Whether a value is a whole number from 1 on."""
    return is_count(value) and value > 0


def is_one_of(value, words):
    """Whether a value is one of some strings."""
    return type(value) is str and value in words


def is_made_of(value, letters, least, most):
    """Whether a value is a string of so many of the letters."""
    # Nothing is left of a string of these letters alone when they are stripped from both ends.
    return type(value) is str and least <= len(value) <= most and value.strip(letters) == ""


def is_sign(value):
    """Whether a value is a string of one sign."""
    return is_made_of(value, SIGNS, 1, 1)


def is_text(value):
    """Whether a value is a text."""
    return is_made_of(value, SIGNS, 0, MOST_SIGNS)


def is_tuple_of(value, least, most):
    """Whether a value is a tuple of so many things."""
    return type(value) is tuple and least <= len(value) <= most


def need_text(text):
    """An error for what is no text."""
    if not is_text(text):
        raise InvalidText(text)


def need_number(value, low, high):
    """An error for no number from low to high."""
    if not is_number(value, low, high):
        raise InvalidNumber(value)


def need_count(value):
    """An error for no number from 0 on."""
    if not is_count(value):
        raise InvalidNumber(value)


def need_many(many):
    """An error for what is no number of things that may be asked for."""
    need_number(many, 1, MOST_ASKED)
