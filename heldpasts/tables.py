"""How tables lie in the map: their schemas, their rows, and the entries of their indexes."""

from heldpasts.conditions import check_name
from heldpasts.keys import check_row, row_code, values_told
from heldpasts.schemas import check_fits, check_schema, values_at

# The last signs that a row code may have, and the sign behind each of them.
NEXT_SIGNS = {" ": "!", "0": "1", "1": "2", "2": "3", "3": "4", "4": "5", "5": "6", "6": "7", "7": "8", "8": "9",
              "9": ":", "o": "p"}


def stretch_of(code):
    """The stretch of all texts that begin with a row code."""
    return (code, code[:-1] + NEXT_SIGNS[code[-1]])


def stretch_below(head, low, high):
    """The stretch of all texts that begin with a row code and go on with a text of a stretch."""
    first, end = stretch_of(head)
    return (first if low is None else head + low, end if high is None else head + high)


def schema_key(name):
    """The key at which the schema of a table lies."""
    check_name(name)
    return row_code(("s", name))


def row_key(schema, key_values):
    """The key at which the row with a key lies."""
    check_schema(schema)
    check_row(key_values)
    return row_code(("r", schema[0]) + key_values)


def index_entries(schema, row):
    """The tuple of the entries of a row, in the sequence of the indexes."""
    check_schema(schema)
    check_fits(schema, row)
    return entries_in_indexes(schema, row)


def entries_in_indexes(schema, row):
    found = [index_entry(schema, index, row) for index in schema[3]]
    return tuple([entry for entry in found if entry is not None])


def index_entry(schema, index, row):
    """The entry of a row in an index, None if it has none there."""
    values = values_at(schema, index[1], row)
    key = values_at(schema, schema[2], row)
    head = index_head(schema[0], index)
    if not index[2]:
        return (head + row_code(values + key), "")
    if None in values:
        return None
    return (head + row_code(values), row_code(key))


def index_head(name, index):
    """The code with which all entries of an index begin."""
    return row_code(("u" if index[2] else "i", name, index[0]))


def index_entry_told(index, entry):
    """(values at the index's columns, the row's key) of an entry of an index."""
    told = values_told(entry[0])[3:]
    if index[2]:
        return (told, values_told(entry[1]))
    many = len(index[1])
    return (told[:many], told[many:])


def lying(schema, row):
    """The dictionary of all with which a row lies in the map."""
    found = {key: value for key, value in entries_in_indexes(schema, row)}
    found[row_code(("r", schema[0]) + values_at(schema, schema[2], row))] = row_code(row)
    return found


def table_stretches(name):
    """The stretches in which the rows of a table and the entries of its indexes lie."""
    check_name(name)
    return tuple([stretch_of(row_code((word, name))) for word in ("i", "r", "u")])
