"""The texts of numbers: digits without leading zeros, with - in front if they are negative."""

from lookdone.readers import DIGITS


def number_in(text, most):
    """The number from 0 on of which this is the text, with at most so many digits, or None."""
    if not 1 <= len(text) <= most or not all([sign in DIGITS for sign in text]):
        return None
    if text[0] == "0" and len(text) > 1:
        return None
    # Python refuses to make numbers of very many digits at once.
    number = 0
    for sign in text:
        number = 10 * number + int(sign)
    return number


def integer_in(text):
    """The integer of which this is the text, or None."""
    if not text.startswith("-"):
        return number_in(text, len(text))
    number = number_in(text[1:], len(text))
    return -number if number else None
