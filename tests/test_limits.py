"""[3]: a call ends within some seconds, also at the limits of use."""

from time import monotonic
import unittest

from heldpasts.books import Book
from heldpasts.disk import Disk
from heldpasts.errors import NotSerial
from heldpasts.meaning import meaning_of
from heldpasts.serial import kept_nodes, order_of, pivots, ring_through
from heldpasts.sessions import Versions
from heldpasts.store import Store
from tests.helpers import Case
from tests.stores import fresh_disk

SECONDS = 5


class LimitsTest(Case):
    def timed(self, call, *members):
        start = monotonic()
        told = call(*members)
        self.assertLess(monotonic() - start, SECONDS, call)
        return told

    def test_keys_and_commits(self):
        disk = fresh_disk(2, 196, 1000)
        versions = Versions(Store(disk))
        many = versions.begin()
        for at in range(700):
            self.timed(many.put, f"k{at:03d}", "v" * 20)
        self.timed(many.commit)
        elder = versions.begin(serial=True)
        for at in range(60):
            elder.value_at(f"k{at:03d}")
        while versions.number < 170:
            session = versions.begin(serial=versions.number % 3 > 0)
            for at in range(30):
                session.value_at(f"k{(versions.number * 7 + at * 31) % 700:03d}")
                session.entries(f"k{(versions.number * 7 + at * 37) % 700:03d}", f"k{at:03d}")
            session.put(f"k{versions.number * 17 % 700:03d}", "x")
            try:
                self.timed(session.commit)
            except NotSerial:
                session.drop()
                session = versions.begin()
                session.put("k000", "x")
                session.commit()
        self.timed(versions.told_order)
        self.timed(versions.vacuum, 1)
        opened = self.timed(Store, Disk(disk.image, 1000))
        self.assertEqual(self.timed(meaning_of, disk.image, 1000), versions.store.meaning())
        self.assertEqual(len(self.timed(opened.entries, None, None, opened.number)), 700)
        self.timed(opened.changed_behind, None, None, 1)

    def test_trees_of_many_entries(self):
        store = Store(fresh_disk(150, 48, 1000))
        for at in range(40):
            store.add(tuple((f"k{at + 40 * place:03d}", "x" * 20) for place in range(5)))
        self.timed(store.checkpoint)
        store.add((("k000", "y"),))
        self.timed(store.checkpoint)
        self.assertEqual(meaning_of(store.disk.image, 1000), store.meaning())

    def test_tables(self):
        schema = ("t", (("a", "int", False), ("b", "text", False)), ("a",), (("ib", ("b",), True),), ())
        for serial in (False, True):
            versions = Versions(Store(fresh_disk(10, 180, 1000)))
            book = Book(versions.begin(serial))
            book.make(schema)
            for at in range(200):
                self.timed(book.add, "t", (at, f"x{at * 7 % 200}"))
            self.timed(book.session.commit)
            book = Book(versions.begin(serial))
            self.timed(book.add_index, "t", ("ia", ("b", "a"), True))
            for at in range(200):
                self.timed(book.change, "t", (at,), (at, f"y{at}"))
            self.assertEqual(len(self.timed(book.rows_of, "t")), 200)
            self.assertEqual(len(self.timed(book.keys_through, "t", ("index", "ia", None, None))), 200)
            self.timed(book.drop, "t")
            self.timed(book.session.commit)

    def test_nodes(self):
        keys = tuple(f"k{at:03d}" for at in range(700))
        notes = tuple(("entries", key + "x", key + "y", ()) for key in keys[::23])
        notes += tuple(("value", key + "z", None) for key in keys[::23])
        for own in (keys[::10], keys[::70]):
            nodes = {number: (number, number - 1, notes, own) for number in range(1, 201)}
            self.assertEqual(self.timed(order_of, nodes), tuple(range(1, 201)))
            self.assertEqual(self.timed(kept_nodes, nodes, ()), {})
            self.assertEqual(self.timed(pivots, nodes), [])
            self.assertIsNone(self.timed(ring_through, nodes, 1))


if __name__ == "__main__":
    unittest.main()
