"""Books: the tables as a session sees them."""

from heldpasts.conditions import check_name
from heldpasts.errors import Alike, InvalidPlan, InvalidSchema, Missing, NoIndex, NoTable, Taken
from heldpasts.keys import check_row, row_code, values_told
from heldpasts.schemas import check_fits, check_schema, is_index, names_of, schema_text, schema_told, values_at
from heldpasts.tables import index_entry, index_entry_told, index_head, lying, row_key, schema_key
from heldpasts.tables import stretch_below, stretch_of, table_stretches
from heldpasts.texts import is_text


class Book:
    """The tables of a session; what it changes are the session's own changes."""

    def __init__(self, session):
        self.session = session

    def tables(self):
        """The ascending tuple of the names of the tables."""
        low, high = stretch_of(row_code(("s",)))
        return tuple([values_told(key)[1] for key, _ in self.session.entries(low, high)])

    def schema(self, name):
        """The schema of a table."""
        text = self.session.value_at(schema_key(name))
        if text is None:
            raise NoTable(name)
        return schema_told(text)

    def make(self, schema):
        """A table without rows."""
        check_schema(schema)
        name = schema[0]
        key = schema_key(name)
        if self.session.value_at(key) is not None:
            raise Taken(name)
        self.lay({key: schema_text(schema)})
        self.guard_table(name)

    def drop(self, name):
        """A table goes with all its rows and their entries."""
        self.schema(name)
        wanted = {schema_key(name): None}
        for low, high in table_stretches(name):
            for key, _ in self.session.entries(low, high):
                wanted[key] = None
        self.lay(wanted)
        self.guard_table(name)

    def add(self, name, row):
        """A row whose key no other one has."""
        check_name(name)
        check_row(row)
        schema = self.schema(name)
        check_fits(schema, row)
        self.check_key(schema, row)
        self.check_alone(schema, row, None)
        self.lay(lying(schema, row))
        self.guard_schema(name)

    def change(self, name, key_values, row):
        """A row in the place of the one with a key."""
        check_name(name)
        check_row(key_values)
        check_row(row)
        schema = self.schema(name)
        check_fits(schema, row)
        old_lying = self.lying_at(schema, key_values)
        new_key = row_key(schema, values_at(schema, schema[2], row))
        if new_key not in old_lying:
            self.check_key(schema, row)
        self.check_alone(schema, row, row_code(key_values))
        wanted = {key: None for key in old_lying}
        wanted.update(lying(schema, row))
        # The row itself is put even if it stands so: whoever else changes it meanwhile is to be met by a conflict.
        self.lay({key: wanted[key] for key in wanted if key == new_key or wanted[key] != old_lying.get(key)})
        self.guard_schema(name)

    def take(self, name, key_values):
        """The row with a key goes."""
        check_name(name)
        check_row(key_values)
        schema = self.schema(name)
        self.lay({key: None for key in self.lying_at(schema, key_values)})
        self.guard_schema(name)

    def add_index(self, name, index):
        """One more index of a table, with the entries of all rows."""
        schema = self.schema(name)
        if not is_index(names_of(schema[1]), index):
            raise InvalidSchema("this is no index over the table's columns")
        if index_named(schema, index[0]) is not None:
            raise Taken(index[0])
        wanted = {}
        for row in self.rows_of(name):
            entry = index_entry(schema, index, row)
            if entry is not None:
                key, value = entry
                if key in wanted:
                    raise Alike((values_told(wanted[key]), values_at(schema, schema[2], row)))
                wanted[key] = value
        wanted[schema_key(name)] = schema_text(with_indexes(schema, schema[3] + (index,)))
        self.lay(wanted)
        self.guard_table(name)

    def take_index(self, name, index_name):
        """An index goes with its entries."""
        schema, index = self.schema_with(name, index_name)
        low, high = stretch_of(index_head(name, index))
        wanted = {key: None for key, _ in self.session.entries(low, high)}
        left = tuple([other for other in schema[3] if other[0] != index_name])
        wanted[schema_key(name)] = schema_text(with_indexes(schema, left))
        self.lay(wanted)
        self.guard_table(name)

    def row_at(self, name, key_values):
        """The row with a key, or None."""
        check_name(name)
        check_row(key_values)
        text = self.session.value_at(row_key(self.schema(name), key_values))
        return None if text is None else values_told(text)

    def rows_of(self, name):
        """The list of all rows, ascending by key."""
        self.schema(name)
        low, high = stretch_of(row_code(("r", name)))
        return [values_told(text) for _, text in self.session.entries(low, high)]

    def entries_of(self, name, index_name):
        """The list of (values at the index's columns, key) of the entries of an index."""
        _, index = self.schema_with(name, index_name)
        low, high = stretch_of(index_head(name, index))
        return [index_entry_told(index, entry) for entry in self.session.entries(low, high)]

    def keys_through(self, name, plan):
        """The list of the keys of the rows through which a plan goes."""
        schema = self.schema(name)
        if not is_plan(schema, plan):
            raise InvalidPlan("this is no plan over the table")
        if plan[0] == "index":
            index = index_named(schema, plan[1])
            entries = self.entries_below(index_head(name, index), plan[2], plan[3])
            return [index_entry_told(index, entry)[1] for entry in entries]
        low, high = plan[1:] if plan[0] == "key" else (None, None)
        entries = self.entries_below(row_code(("r", name)), low, high)
        return [values_told(key)[2:] for key, _ in entries]

    def schema_with(self, name, index_name):
        """The schema of a table, and its index with a name."""
        check_name(name)
        check_name(index_name)
        schema = self.schema(name)
        index = index_named(schema, index_name)
        if index is None:
            raise NoIndex(index_name)
        return (schema, index)

    def entries_below(self, head, low, high):
        """The entries whose keys begin with a code, and go on with a text of a stretch."""
        first, end = stretch_below(head, low, high)
        return self.session.entries(first, end)

    def lying_at(self, schema, key_values):
        """All with which the row with a key lies in the map."""
        text = self.session.value_at(row_key(schema, key_values))
        if text is None:
            raise Missing(key_values)
        return lying(schema, values_told(text))

    def check_key(self, schema, row):
        """No row has the key of this one."""
        key_values = values_at(schema, schema[2], row)
        if self.session.value_at(row_key(schema, key_values)) is not None:
            raise Taken("key")

    def check_alone(self, schema, row, own_code):
        """In no index that is alone another row, of another key's code, has the values of this one."""
        for index in schema[3]:
            entry = index_entry(schema, index, row) if index[2] else None
            if entry is not None:
                code = self.session.value_at(entry[0])
                if code is not None and code != own_code:
                    raise Taken(index[0])

    def lay(self, wanted):
        """Lays a dictionary of changes into the session's own ones, all or none."""
        self.session.put_all(tuple([(key, wanted[key]) for key in sorted(wanted)]))

    def guard_schema(self, name):
        """Lets the session fail if others change the table's schema."""
        low, high = stretch_of(schema_key(name))
        self.session.guard(low, high)

    def guard_table(self, name):
        """Lets the session fail if others change any row of the table."""
        for low, high in table_stretches(name):
            self.session.guard(low, high)


def index_named(schema, index_name):
    """The index of a schema with this name, or None."""
    for index in schema[3]:
        if index[0] == index_name:
            return index
    return None


def with_indexes(schema, indexes):
    """The schema with these indexes in the place of its own."""
    name, columns, key, _, checks = schema
    return (name, columns, key, tuple(sorted(indexes)), checks)


def is_plan(schema, value):
    """Whether a value is a plan over the table of a schema."""
    if type(value) is not tuple or not value:
        return False
    if value[0] == "all":
        return len(value) == 1
    if value[0] == "key":
        return len(value) == 3 and are_bounds(value[1:])
    if value[0] != "index" or len(value) != 4:
        return False
    return index_named(schema, value[1]) is not None and are_bounds(value[2:])


def are_bounds(bounds):
    return all([bound is None or is_text(bound) for bound in bounds])
