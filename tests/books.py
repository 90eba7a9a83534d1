"""Books for the tests, and plain tables beside them."""

from heldpasts.books import Book
from heldpasts.keys import row_code
from heldpasts.schemas import schema_text
from heldpasts.sessions import Versions
from tests.rows import plain_fits, values_at
from tests.stores import fresh_store


def fresh_versions(pages=60, log_blocks=12, signs=1000):
    return Versions(fresh_store(pages, log_blocks, signs))


def fresh_book(*schemas, **sizes):
    book = Book(fresh_versions(**sizes).begin())
    for schema in schemas:
        book.make(schema)
    return book


def code_of(schema, row):
    return row_code(values_at(schema, schema[2], row))


def index_rows(schema, index, rows):
    """The (values, key) of the entries of an index over some rows, ascending by the codes."""
    name, columns, alone = index
    found = []
    for row in rows:
        values, key = values_at(schema, columns, row), values_at(schema, schema[2], row)
        if not alone or None not in values:
            found.append((row_code(values) + row_code(key), (values, key)))
    return [entry for _, entry in sorted(found)]


def plain_map(tables):
    """All entries with which tables, a dictionary from names to (schema, rows), lie in the map."""
    found = {}
    for name, (schema, rows) in tables.items():
        found[row_code(("s", name))] = schema_text(schema)
        for row in rows:
            found[row_code(("r", name)) + code_of(schema, row)] = row_code(row)
            for index in schema[3]:
                for values, key in index_rows(schema, index, [row]):
                    head = row_code(("u" if index[2] else "i", name, index[0]) + values)
                    found[head if index[2] else head + row_code(key)] = row_code(key) if index[2] else ""
    return sorted(found.items())


class Plain:
    """Tables as plain lists of rows; each deed tells the word of its error, or None."""

    def __init__(self, tables=None):
        self.tables = {name: (schema, list(rows)) for name, (schema, rows) in (tables or {}).items()}

    def copied(self):
        return Plain(self.tables)

    def make(self, schema):
        if schema[0] in self.tables:
            return ("Taken", schema[0])
        self.tables[schema[0]] = (schema, [])
        return None

    def drop(self, name):
        if name not in self.tables:
            return ("NoTable", name)
        del self.tables[name]
        return None

    def at(self, name, key):
        schema, rows = self.tables[name]
        return [row for row in rows if repr(values_at(schema, schema[2], row)) == repr(key)]

    def taken(self, name, row, going):
        schema, rows = self.tables[name]
        others = [other for other in rows if other not in going]
        if any(code_of(schema, other) == code_of(schema, row) for other in others):
            return ("Taken", "key")
        for index_name, columns, alone in schema[3]:
            values = values_at(schema, columns, row)
            if alone and None not in values and values in [values_at(schema, columns, other) for other in others]:
                return ("Taken", index_name)
        return None

    def add(self, name, row):
        if name not in self.tables:
            return ("NoTable", name)
        if not plain_fits(self.tables[name][0], row):
            return ("InvalidRow", None)
        error = self.taken(name, row, [])
        if error is None:
            self.tables[name][1].append(row)
        return error

    def change(self, name, key, row):
        if name not in self.tables:
            return ("NoTable", name)
        if not plain_fits(self.tables[name][0], row):
            return ("InvalidRow", None)
        going = self.at(name, key)
        if not going:
            return ("Missing", key)
        error = self.taken(name, row, going)
        if error is None:
            self.tables[name][1].remove(going[0])
            self.tables[name][1].append(row)
        return error

    def take(self, name, key):
        if name not in self.tables:
            return ("NoTable", name)
        going = self.at(name, key)
        if not going:
            return ("Missing", key)
        self.tables[name][1].remove(going[0])
        return None

    def add_index(self, name, index):
        if name not in self.tables:
            return ("NoTable", name)
        schema, rows = self.tables[name]
        names = [column[0] for column in schema[1]]
        if not all(column in names for column in index[1]) or index[0] == "key":
            return ("InvalidSchema", None)
        if index[0] in [other[0] for other in schema[3]]:
            return ("Taken", index[0])
        if index[2]:
            met = {}
            for row in sorted(rows, key=lambda member: code_of(schema, member)):
                values, key = values_at(schema, index[1], row), values_at(schema, schema[2], row)
                if None not in values and values in met:
                    return ("Alike", (met[values], key))
                met.setdefault(values, key)
        schema = schema[:3] + (tuple(sorted(schema[3] + (index,))),) + schema[4:]
        self.tables[name] = (schema, rows)
        return None

    def take_index(self, name, index_name):
        if name not in self.tables:
            return ("NoTable", name)
        schema, rows = self.tables[name]
        left = tuple(index for index in schema[3] if index[0] != index_name)
        if left == schema[3]:
            return ("NoIndex", index_name)
        self.tables[name] = (schema[:3] + (left,) + schema[4:], rows)
        return None
