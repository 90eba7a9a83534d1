"""Schemas of tables: columns of kinds, a key, indexes and checks."""

from heldpasts.conditions import MOST_DEEP, are_unlike, is_name, is_nested, truth_for
from heldpasts.errors import InvalidRow, InvalidSchema
from heldpasts.keys import is_row, row_code, values_told

KINDS = ("int", "text", "truth")
MOST_COLUMNS = 8
MOST_CHECKS = 4


def is_schema(value):
    """Whether a value is a schema (name, columns, key, indexes, checks)."""
    if type(value) is not tuple or len(value) != 5 or not all([type(part) is tuple for part in value[1:]]):
        return False
    name, columns, key, indexes, checks = value
    if not is_name(name) or not are_columns(columns):
        return False
    names = names_of(columns)
    bound = tuple([column for column, _, free in columns if not free])
    if not are_some_of(bound, key) or not all([is_index(names, index) for index in indexes]):
        return False
    index_names = [index[0] for index in indexes]
    if not all([one < other for one, other in zip(index_names, index_names[1:])]):
        return False
    return len(checks) <= MOST_CHECKS and all([is_nested(names, check, MOST_DEEP) for check in checks])


def names_of(columns):
    """The names of a schema's columns."""
    return tuple([column[0] for column in columns])


def are_columns(columns):
    """Whether the members of a tuple are columns of unlike names."""
    if not 1 <= len(columns) <= MOST_COLUMNS or not all([is_column(column) for column in columns]):
        return False
    return are_unlike(names_of(columns))


def is_column(value):
    if type(value) is not tuple or len(value) != 3:
        return False
    return is_name(value[0]) and value[1] in KINDS and type(value[2]) is bool


def are_some_of(names, value):
    """Whether a value is a tuple of one or more unlike ones of some names."""
    if type(value) is not tuple or not value or not all([member in names for member in value]):
        return False
    return are_unlike(value)


def is_index(names, value):
    """Whether a value is an index (name, columns, alone) over columns of these names."""
    if type(value) is not tuple or len(value) != 3:
        return False
    return is_name(value[0]) and value[0] != "key" and are_some_of(names, value[1]) and type(value[2]) is bool


def check_schema(schema):
    if not is_schema(schema):
        raise InvalidSchema("this is no schema")


def fits(schema, value):
    """Whether a value is a row that fits a schema."""
    check_schema(schema)
    return fits_in(schema, value)


def fits_in(schema, value):
    columns, checks = schema[1], schema[4]
    if not is_row(value) or len(value) != len(columns):
        return False
    if not all([is_of_column(column, member) for column, member in zip(columns, value)]):
        return False
    names = names_of(columns)
    return all([truth_for(names, check, value) is not False for check in checks])


def is_of_column(column, value):
    """Whether a value is of a column's kind, or None where this is free."""
    _, kind, free = column
    if value is None:
        return free
    if kind == "int":
        return type(value) is int
    if kind == "text":
        return type(value) is str
    return type(value) is bool


def check_fits(schema, row):
    if not fits_in(schema, row):
        raise InvalidRow("the row does not fit the schema")


def key_of(schema, row):
    """The key of a row that fits a schema."""
    check_schema(schema)
    check_fits(schema, row)
    return values_at(schema, schema[2], row)


def values_at(schema, columns, row):
    """The tuple of a row's values at some columns of its schema."""
    names = names_of(schema[1])
    return tuple([row[names.index(column)] for column in columns])


def schema_text(schema):
    """The row code that tells a schema."""
    check_schema(schema)
    name, columns, key, indexes, checks = schema
    values = [name, len(columns)]
    for column in columns:
        values.extend(column)
    values.append(len(key))
    values.extend(key)
    values.append(len(indexes))
    for index_name, members, alone in indexes:
        values.extend([index_name, alone, len(members)])
        values.extend(members)
    values.append(len(checks))
    for check in checks:
        values.extend(check_values(check))
    return row_code(tuple(values))


def check_values(check):
    """The list of the values that tell a condition: its word, then what belongs to it."""
    values = [check[0]]
    for member in check[1:]:
        if type(member) is tuple:
            values.extend(check_values(member))
        else:
            values.append(member)
    return values


def schema_told(text):
    """The schema with this text."""
    reader = Reader(values_told(text))
    name = reader.member()
    columns = tuple([(reader.member(), reader.member(), reader.member()) for _ in range(reader.many())])
    key = reader.members()
    indexes = tuple([reader.told_index() for _ in range(reader.many())])
    checks = tuple([reader.told_check(MOST_DEEP) for _ in range(reader.many())])
    schema = (name, columns, key, indexes, checks)
    if reader.left() > 0 or not is_schema(schema):
        raise InvalidSchema("the values tell no schema")
    return schema


class Reader:
    """Goes along the values that tell a schema; InvalidSchema where they end too early."""

    def __init__(self, told):
        self.told = told
        self.at = 0

    def left(self):
        return len(self.told) - self.at

    def member(self):
        """The next value."""
        if self.left() == 0:
            raise InvalidSchema("the values of a schema end too early")
        self.at = self.at + 1
        return self.told[self.at - 1]

    def many(self):
        """The next value, which tells how many follow."""
        many = self.member()
        if type(many) is not int or not 0 <= many <= self.left():
            raise InvalidSchema("a schema tells a number here")
        return many

    def members(self):
        """So many values as the next one tells."""
        return tuple([self.member() for _ in range(self.many())])

    def told_index(self):
        name, alone = self.member(), self.member()
        return (name, self.members(), alone)

    def told_check(self, deep):
        """What comes next in a condition's place; that it is one is looked at behind all, but for its depth."""
        word = self.member()
        if deep > 0 and word in ("and", "or"):
            one = self.told_check(deep - 1)
            return (word, one, self.told_check(deep - 1))
        if deep > 0 and word == "not":
            return (word, self.told_check(deep - 1))
        if word == "none":
            return (word, self.member())
        column = self.member()
        return (word, column, self.member())
