"""Codes of values that go in the order of the values."""

from heldpasts.checks import check_text
from heldpasts.errors import InvalidCode, InvalidRow, InvalidValue
from heldpasts.texts import is_text

MOST_DIGITS = 30
MOST_SIGNS = 200
# The signs with the numbers 64 to 96: the place of a sign here is its number less 64.
COUNT_SIGNS = "@ABCDEFGHIJKLMNOPQRSTUVWXYZ[\\]^_`"
NINES_LESS = "9876543210"
SINGLES = {"0": None, "1": False, "2": True, "o": 0}


def is_value(value):
    """Whether a value is one that has a code."""
    if type(value) is int:
        return abs(value) < 10 ** 30
    if type(value) is str:
        return is_text(value) and len(value) <= MOST_SIGNS
    return value is None or type(value) is bool


def is_row(value):
    """Whether a value is a tuple of values that have codes."""
    return type(value) is tuple and all([is_value(member) for member in value])


def check_row(row):
    if not is_row(row):
        raise InvalidRow("this is no tuple of values")


def value_code(value):
    """The code of one value."""
    if not is_value(value):
        raise InvalidValue("a value is None, a truth, an integer of 30 digits or a text of 200 signs")
    if value is None:
        return "0"
    if type(value) is bool:
        return "2" if value else "1"
    if type(value) is int:
        return integer_code(value)
    return "t" + text_code(value)


def integer_code(value):
    if value == 0:
        return "o"
    digits = str(abs(value))
    if value > 0:
        return "p" + COUNT_SIGNS[len(digits)] + digits
    return "n" + COUNT_SIGNS[32 - len(digits)] + "".join([NINES_LESS[int(digit)] for digit in digits])


def text_code(text):
    """The signs of a text so that the space, less than all of them, can end it."""
    return text.replace("!", "!b").replace(" ", "!a") + " "


def row_code(values):
    """The codes of a tuple of values one behind another."""
    check_row(values)
    return "".join([value_code(value) for value in values])


def values_told(code):
    """The tuple of values with this code."""
    check_text(code)
    values = []
    at = 0
    while at < len(code):
        value, at = value_from(code, at)
        values.append(value)
    return tuple(values)


def value_from(code, at):
    """The value whose code stands at an index, and the index behind it."""
    sign = code[at]
    if sign in SINGLES:
        return (SINGLES[sign], at + 1)
    if sign == "p" or sign == "n":
        return integer_from(code, at)
    if sign == "t":
        return text_from(code, at)
    raise InvalidCode(at)


def sign_at(code, at):
    """The sign at an index; a code that ends there ends too early."""
    if at >= len(code):
        raise InvalidCode(len(code))
    return code[at]


def integer_from(code, at):
    below = code[at] == "n"
    many = COUNT_SIGNS.find(sign_at(code, at + 1))
    if below:
        many = 32 - many
    if not 1 <= many <= MOST_DIGITS:
        raise InvalidCode(at + 1)
    start = at + 2
    digits = ""
    for place in range(start, start + many):
        sign = sign_at(code, place)
        digit = NINES_LESS[int(sign)] if below and sign.isdigit() else sign
        # No integer but 0 begins with 0, and that one has a code of its own.
        if not digit.isdigit() or place == start and digit == "0":
            raise InvalidCode(place)
        digits = digits + digit
    return (-int(digits) if below else int(digits), start + many)


def text_from(code, at):
    signs = []
    place = at + 1
    while sign_at(code, place) != " ":
        if len(signs) == MOST_SIGNS:
            raise InvalidCode(place)
        sign = code[place]
        if sign == "!":
            place += 1
            sign = plain_sign(code, place)
        signs.append(sign)
        place += 1
    return ("".join(signs), place + 1)


def plain_sign(code, at):
    """The sign that the second half of `!a` or `!b` tells."""
    sign = sign_at(code, at)
    if sign == "a":
        return " "
    if sign == "b":
        return "!"
    raise InvalidCode(at)
