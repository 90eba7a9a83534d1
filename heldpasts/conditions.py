"""Names, and conditions over columns: each is true, false or unknown for a row."""

from heldpasts.errors import InvalidCondition, InvalidName, InvalidRow
from heldpasts.keys import check_row, is_value

MOST_LETTERS = 8
MOST_DEEP = 12


def is_name(value):
    """Whether a value is 1 to 8 of the letters a to z."""
    if type(value) is not str or not 1 <= len(value) <= MOST_LETTERS:
        return False
    return value.isascii() and value.isalpha() and value.islower()


def check_name(name):
    if not is_name(name):
        raise InvalidName("a name is 1 to 8 of the letters a to z")


def are_unlike(members):
    """Whether no two of some texts are the same."""
    return len(set(members)) == len(members)


def is_condition(columns, value):
    """Whether a value is a condition over the columns."""
    check_columns(columns)
    return is_nested(columns, value, MOST_DEEP)


def is_nested(columns, value, deep):
    """Whether a value is a condition over the columns, nested at most so deep."""
    if type(value) is not tuple or not value or deep == 0:
        return False
    word = value[0]
    if word == "none":
        return len(value) == 2 and value[1] in columns
    if word in ("is", "less", "most"):
        return len(value) == 3 and value[1] in columns and is_value(value[2])
    if word == "not":
        return len(value) == 2 and is_nested(columns, value[1], deep - 1)
    if word in ("and", "or"):
        return len(value) == 3 and all([is_nested(columns, part, deep - 1) for part in value[1:]])
    return False


def check_columns(columns):
    if type(columns) is not tuple or not all([is_name(column) for column in columns]):
        raise InvalidCondition("columns are a tuple of names")
    if not are_unlike(columns):
        raise InvalidCondition("the columns are unlike names")


def check_condition(columns, condition):
    """The columns are right, and the condition is one over them, or None."""
    check_columns(columns)
    if condition is not None and not is_nested(columns, condition, MOST_DEEP):
        raise InvalidCondition("this is no condition over the columns")


def truth_of(columns, condition, row):
    """The truth of a condition, or of None, for a row: True, False or None (unknown)."""
    check_condition(columns, condition)
    check_row(row)
    if len(row) != len(columns):
        raise InvalidRow("a row has just one value for each column")
    return truth_for(columns, condition, row)


def truth_for(columns, condition, row):
    if condition is None:
        return True
    word = condition[0]
    if word == "not":
        truth = truth_for(columns, condition[1], row)
        return None if truth is None else not truth
    if word in ("and", "or"):
        truths = [truth_for(columns, part, row) for part in condition[1:]]
        return truth_together(truths, word == "or")
    value = row[columns.index(condition[1])]
    if word == "none":
        return value is None
    return truth_between(word, value, condition[2])


def truth_together(truths, deciding):
    """The truth of two conditions of which one with the deciding truth is enough for it."""
    if deciding in truths:
        return deciding
    return None if None in truths else not deciding


def truth_between(word, value, told):
    """The truth of a column's value and a told one: None if one is missing, or they are of unlike kinds."""
    if value is None or not are_of_one_kind(value, told):
        return None
    if word == "is":
        return value == told
    return value < told or word == "most" and value == told


def are_of_one_kind(one, other):
    return type(one) is type(other)


def meets(columns, condition, row):
    """Whether the truth of a condition for a row is True."""
    return truth_of(columns, condition, row) is True
