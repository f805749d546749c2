"""Fractions written as texts."""

from wagerroom.errors import InvalidFractionError, InvalidTextError
from wagerroom.ratios import is_valid_fraction

# Python converts only integers of a limited length, and a fraction may be of
# any size, so the digits are converted in blocks.
BLOCK_DIGITS = 50
BLOCK = 10 ** 50


def digits_of(number):
    """Return the decimal digits of an integer that is at least 0."""
    blocks = []
    while number >= BLOCK:
        number, block = divmod(number, BLOCK)
        blocks.append(str(block).zfill(BLOCK_DIGITS))
    blocks.append(str(number))
    return "".join(reversed(blocks))


def number_of(digits):
    """Return the integer that is written in these decimal digits, at least one."""
    first = len(digits) % BLOCK_DIGITS
    number = int("0" + digits[:first])
    for start in range(first, len(digits), BLOCK_DIGITS):
        number = number * BLOCK + int(digits[start:start + BLOCK_DIGITS])
    return number


def format_fraction(value):
    """Return the text of a fraction."""
    if not is_valid_fraction(value):
        raise InvalidFractionError("not a tuple (top, bottom) in lowest terms")
    top, bottom = value
    text = digits_of(abs(top))
    if top < 0:
        text = "-" + text
    if bottom != 1:
        text = text + "/" + digits_of(bottom)
    return text


def integer_of(text):
    """Return the integer that a text of digits is, perhaps behind a sign, or None."""
    digits = text.removeprefix("-")
    if not digits.isascii() or not digits.isdigit():
        return None
    if text.startswith("-"):
        return -number_of(digits)
    return number_of(digits)


def parse_fraction(text):
    """Return the fraction that any value is the text of."""
    if not isinstance(text, str):
        raise InvalidTextError("not a text")
    numbers = [integer_of(piece) for piece in text.split("/")]
    if len(numbers) == 1:
        numbers.append(1)
    # A fraction has only one text, which rules out other ways to write it.
    value = tuple(numbers)
    if not is_valid_fraction(value) or format_fraction(value) != text:
        raise InvalidTextError("not the text of a fraction")
    return value
