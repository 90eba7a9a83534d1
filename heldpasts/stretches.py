"""What a condition tells of columns: a stretch for the codes of their values in each row that meets it."""

from heldpasts.conditions import check_condition
from heldpasts.errors import InvalidCode, InvalidCondition
from heldpasts.keys import value_code, values_told
from heldpasts.schemas import are_some_of, check_schema, names_of
from heldpasts.tables import stretch_below, stretch_of

ALL = (None, None)
NOTHING = ("", "")


def bounds_of(schema, column, condition, wanted=True):
    """The bounds of the codes of a column's values for a wanted truth of a condition."""
    check_schema(schema)
    names = names_of(schema[1])
    if column not in names:
        raise InvalidCondition("there is no such column")
    check_condition(names, condition)
    return bounds_for(column, condition, wanted)


def bounds_for(column, condition, wanted):
    if condition is None:
        return ALL
    word = condition[0]
    if word == "not":
        return bounds_for(column, condition[1], not wanted)
    if word in ("and", "or"):
        one, other = [bounds_for(column, part, wanted) for part in condition[1:]]
        return narrower(one, other) if (word == "and") == wanted else wider(one, other)
    if condition[1] != column:
        return ALL
    if word == "none":
        return ("0", "1") if wanted else ("1", None)
    return bounds_by(word, condition[2], wanted)


def bounds_by(word, told, wanted):
    """The bounds that is, less or most with a told value tell of their column."""
    if told is None:
        return NOTHING
    low, high = kind_stretch(told)
    code, behind = stretch_of(value_code(told))
    if word == "is":
        return (code, behind) if wanted else (low, high)
    edge = code if word == "less" else behind
    return plain_stretch(low, edge) if wanted else plain_stretch(edge, high)


def kind_stretch(told):
    """The stretch of the codes of all values of a value's kind."""
    if type(told) is bool:
        return ("1", "3")
    return ("n", "q") if type(told) is int else ("t", "u")


def plain_stretch(low, high):
    """The stretch; one in which nothing lies is told in one way alone."""
    if low is not None and high is not None and low >= high:
        return NOTHING
    return (low, high)


def narrower(one, other):
    """The stretch in both of two."""
    lows = [low for low, _ in (one, other) if low is not None]
    highs = [high for _, high in (one, other) if high is not None]
    return plain_stretch(max(lows, default=None), min(highs, default=None))


def wider(one, other):
    """The stretch around two."""
    if one == NOTHING:
        return other
    if other == NOTHING:
        return one
    lows = [one[0], other[0]]
    highs = [one[1], other[1]]
    return plain_stretch(None if None in lows else min(lows), None if None in highs else max(highs))


def stretch_for(schema, columns, condition):
    """The stretch of the codes, one behind another, of the values at some columns in rows that meet a condition."""
    check_schema(schema)
    names = names_of(schema[1])
    if not are_some_of(names, columns):
        raise InvalidCondition("these are not one or more unlike columns of the schema")
    check_condition(names, condition)
    return stretch_told(columns, condition)


def stretch_told(columns, condition):
    code = ""
    for column in columns:
        low, high = bounds_for(column, condition, True)
        if (low, high) == NOTHING:
            return NOTHING
        if not is_of_one_value(low, high):
            return stretch_below(code, low, high) if code != "" else (low, high)
        code = code + low
    return stretch_of(code)


def is_of_one_value(low, high):
    """Whether a stretch is that of the code of some value."""
    if low is None:
        return False
    try:
        values = values_told(low)
    except InvalidCode:
        return False
    return len(values) == 1 and (low, high) == stretch_of(low)
