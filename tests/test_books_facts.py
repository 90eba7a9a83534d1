"""Fact I: whatever is done, at every past the tables are plain ones, and their indexes are told by the rows."""

from random import Random
import unittest

from heldpasts.books import Book
from heldpasts.disk import Disk
from heldpasts.errors import Conflict, NotSerial, PowerCut, StoreError
from heldpasts.keys import row_code
from heldpasts.sessions import Versions
from heldpasts.store import Store
from tests.books import Plain, index_rows, plain_map
from tests.helpers import Case
from tests.rows import row_by_chance, schema_by_chance, values_at
from tests.stores import choice_by_chance, fresh_disk

NAMES = ("s", "t", "tt")


def deed_by_chance(chance, plain):
    """A deed of a book and its members; mostly one that can be done."""
    name = chance.choice(NAMES)
    word = chance.choice(("make", "add", "add", "add", "add", "change", "change", "change", "take", "add_index",
                          "add_index", "take_index", "take_index", "drop"))
    if name not in plain.tables:
        if word == "make" or chance.randrange(3):
            return "make", (schema_by_chance(chance, name, chance.randrange(2) == 0),)
        schema, rows = schema_by_chance(chance, name), []
    else:
        schema, rows = plain.tables[name]
    key = values_at(schema, schema[2], chance.choice(rows)) if rows and chance.randrange(5) else (1,)
    columns = tuple(chance.sample([column[0] for column in schema[1]], chance.randrange(1, len(schema[1]) + 1)))
    members = {"make": lambda: (schema,), "add": lambda: (name, row_by_chance(chance, schema)),
               "change": lambda: (name, key, chance.choice(rows + [row_by_chance(chance, schema)] * 4)),
               "take": lambda: (name, key), "drop": lambda: (name,),
               "add_index": lambda: (name, (chance.choice(("i", "ii", "k", "l")), columns, chance.randrange(2) == 0)),
               "take_index": lambda: (name, chance.choice(("i", "ii", "j")))}
    return word, members[word]()


def word_of(error):
    """What the plain tables tell of an error."""
    kind = type(error).__name__
    fields = {"Taken": "word", "NoTable": "name", "Missing": "row", "Alike": "pair", "NoIndex": "name"}
    return (kind, getattr(error, fields[kind]) if kind in fields else None)


class FactCase(Case):
    def does(self, chance, book, plain):
        """One deed by chance, done to the book and to the plain tables: both tell the same of it."""
        word, members = deed_by_chance(chance, plain)
        before = book.session.changes
        try:
            error = None
            self.assertIsNone(getattr(book, word)(*members))
        except StoreError as raised:
            error = word_of(raised)
            self.assertEqual(book.session.changes, before)
        self.assertEqual(error, getattr(plain, word)(*members), (word, members))
        return error

    def look(self, book, plain):
        self.assertEqual(book.session.entries(None, None), plain_map(plain.tables))

    def read(self, chance, book, plain):
        """All that a book tells, against the plain tables."""
        self.assertEqual(book.tables(), tuple(sorted(plain.tables)))
        for name, (schema, rows) in plain.tables.items():
            self.assertEqual(book.schema(name), schema)
            ascending = sorted(rows, key=lambda row: row_code(values_at(schema, schema[2], row)))
            self.assertEqual(book.rows_of(name), ascending)
            keys = [values_at(schema, schema[2], row) for row in ascending]
            self.assertEqual(book.keys_through(name, ("all",)), keys)
            for key, row in zip(keys, ascending):
                self.assertEqual(book.row_at(name, key), row)
            codes = [row_code(key) for key in keys]
            low, high = self.bounds(chance, codes)
            self.assertEqual(book.keys_through(name, ("key", low, high)),
                             [key for key, code in zip(keys, codes) if self.inside(code, low, high)])
            for index in schema[3]:
                self.read_index(chance, book, schema, index, rows)

    def read_index(self, chance, book, schema, index, rows):
        entries = index_rows(schema, index, rows)
        self.assertEqual(book.entries_of(schema[0], index[0]), entries)
        codes = [row_code(values) + ("" if index[2] else row_code(key)) for values, key in entries]
        self.assertEqual(codes, sorted(set(codes)))
        low, high = self.bounds(chance, codes)
        self.assertEqual(book.keys_through(schema[0], ("index", index[0], low, high)),
                         [entry[1] for entry, code in zip(entries, codes) if self.inside(code, low, high)])

    def bounds(self, chance, codes):
        near = [None, "", "~", "p", "t", "1"] + codes + [code[:-1] for code in codes] + [code + " " for code in codes]
        return chance.choice(near), chance.choice(near)

    def inside(self, code, low, high):
        return (low is None or low <= code) and (high is None or code < high)


class FactTest(FactCase):
    def test_one_session(self):
        words = {}
        for seed in range(150):
            chance = Random(seed)
            book, plain = Book(Versions(Store(fresh_disk(60, 12, 1000))).begin(chance.randrange(4) == 0)), Plain()
            for _ in range(50):
                error = self.does(chance, book, plain)
                words[error and error[0]] = True
                self.look(book, plain)
            self.read(chance, book, plain)
        self.assertEqual(set(words), {None, "Taken", "NoTable", "InvalidRow", "Missing", "Alike", "NoIndex"})

    def test_several_sessions_and_each_past(self):
        refused = 0
        for seed in range(120):
            chance = Random(seed)
            versions = Versions(Store(fresh_disk(120, 40, 1000)))
            pasts, open_ones = [Plain()], []
            for _ in range(60):
                word = chance.randrange(8)
                if word == 0 and len(open_ones) < 5:
                    serial = chance.randrange(4) == 0
                    at = versions.number if serial or chance.randrange(3) else chance.randrange(len(pasts))
                    open_ones.append((Book(versions.begin(serial, at)), pasts[at].copied()))
                elif word == 1 and open_ones:
                    book, plain = open_ones.pop(chance.randrange(len(open_ones)))
                    refused += self.ended(versions, book, plain, pasts)
                elif open_ones:
                    book, plain = chance.choice(open_ones)
                    self.does(chance, book, plain)
                    self.look(book, plain)
            for number in range(versions.number + 1):
                self.assertEqual(versions.store.entries(None, None, number), plain_map(pasts[number].tables))
            self.read(chance, Book(versions.begin()), pasts[-1])
        self.assertGreater(refused, 50)

    def ended(self, versions, book, plain, pasts):
        """Ends a session: its changes are laid over the newest past, whatever others did meanwhile."""
        session = book.session
        try:
            number = session.commit()
        except (Conflict, NotSerial):
            session.drop()
            return 1
        if not session.changes and not session.serial:
            return 0
        self.assertEqual(number, len(pasts))
        newest = Plain(self.merged(pasts[-1], versions, session))
        pasts.append(newest)
        return 0

    def merged(self, elder, versions, session):
        """The tables behind a commit, as a book reads them; that they are plain ones is looked at by plain_map."""
        reader = Book(versions.begin())
        tables = {name: (reader.schema(name), reader.rows_of(name)) for name in reader.tables()}
        reader.session.drop()
        # Each row is from the commit, or stood so in the elder past.
        own = dict(session.changes)
        before = dict(plain_map(elder.tables))
        for name, (schema, rows) in tables.items():
            for row in rows:
                key = row_code(("r", name) + values_at(schema, schema[2], row))
                self.assertEqual(own.get(key, before.get(key)), row_code(row))
        return tables

    def test_cuts_between(self):
        for seed in range(40):
            chance = Random(seed)
            disk = fresh_disk(120, 6, 1000, chance.randrange(60))
            pasts = [Plain()]
            for _ in range(5):
                try:
                    self.play(chance, Versions(Store(disk)), pasts)
                except PowerCut:
                    pass
                image = disk.behind(choice_by_chance(chance, disk))
                disk = Disk(image, 1000, chance.choice((5, 20, 60, None)))
                store = Store(disk)
                self.assertLessEqual(store.number, len(pasts) - 1)
                del pasts[store.number + 1:]
                for number in range(store.number + 1):
                    self.assertEqual(store.entries(None, None, number), plain_map(pasts[number].tables))

    def play(self, chance, versions, pasts):
        for _ in range(chance.randrange(1, 9)):
            book, plain = Book(versions.begin()), pasts[-1].copied()
            for _ in range(chance.randrange(1, 6)):
                self.does(chance, book, plain)
            if book.session.changes:
                # A commit that the cut ends may stand, too.
                pasts.append(plain)
            versions.commit(book.session, chance.randrange(2) == 0)


if __name__ == "__main__":
    unittest.main()
