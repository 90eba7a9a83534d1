"""[3]: a call ends within some seconds, also at the limits of use."""

from time import monotonic
import unittest

from heldpasts.batches import Batch, standing
from heldpasts.books import Book
from heldpasts.disk import Disk
from heldpasts.errors import InvalidCommand, NotSerial, Refused
from heldpasts.feeds import copy_letters, feed, letter_text, letter_told, letters_from
from heldpasts.followers import Follower
from heldpasts.judge import (edges_of, is_right_order, is_ring, is_serial_order, is_snapshot_history, keeps_edges,
                             order_of, past_of, pivots_of, right_orders, ring_of, told_history)
from heldpasts.looks import best_plan, look, plain_answer, plan_cost, plans
from heldpasts.meaning import meaning_of
from heldpasts.pairs import paired, totals
from heldpasts.prepared import Keeper
from heldpasts.script_texts import command_text, command_told
from heldpasts.serial import kept_nodes, order_of as order_of_nodes, pivots, ring_through
from heldpasts.server import Server
from heldpasts.sessions import Versions
from heldpasts.store import Store
from tests.helpers import Case
from tests.stores import fresh_disk

SECONDS = 5


class LimitsTest(Case):
    def timed(self, call, *members):
        start = monotonic()
        told = call(*members)
        self.assertLess(monotonic() - start, SECONDS, call)
        return told

    def test_keys_and_commits(self):
        disk = fresh_disk(2, 196, 1000)
        versions = Versions(Store(disk))
        many = versions.begin()
        for at in range(700):
            self.timed(many.put, f"k{at:03d}", "v" * 20)
        self.timed(many.commit)
        elder = versions.begin(serial=True)
        for at in range(60):
            elder.value_at(f"k{at:03d}")
        while versions.number < 170:
            session = versions.begin(serial=versions.number % 3 > 0)
            for at in range(30):
                session.value_at(f"k{(versions.number * 7 + at * 31) % 700:03d}")
                session.entries(f"k{(versions.number * 7 + at * 37) % 700:03d}", f"k{at:03d}")
            session.put(f"k{versions.number * 17 % 700:03d}", "x")
            try:
                self.timed(session.commit)
            except NotSerial:
                session.drop()
                session = versions.begin()
                session.put("k000", "x")
                session.commit()
        self.timed(versions.told_order)
        self.timed(versions.vacuum, 1)
        opened = self.timed(Store, Disk(disk.image, 1000))
        self.assertEqual(self.timed(meaning_of, disk.image, 1000), versions.store.meaning())
        self.assertEqual(len(self.timed(opened.entries, None, None, opened.number)), 700)
        self.timed(opened.changed_behind, None, None, 1)

    def test_trees_of_many_entries(self):
        store = Store(fresh_disk(150, 48, 1000))
        for at in range(40):
            store.add(tuple((f"k{at + 40 * place:03d}", "x" * 20) for place in range(5)))
        self.timed(store.checkpoint)
        store.add((("k000", "y"),))
        self.timed(store.checkpoint)
        self.assertEqual(meaning_of(store.disk.image, 1000), store.meaning())

    def test_tables(self):
        schema = ("t", (("a", "int", False), ("b", "text", False)), ("a",), (("ib", ("b",), True),), ())
        for serial in (False, True):
            versions = Versions(Store(fresh_disk(10, 180, 1000)))
            book = Book(versions.begin(serial))
            book.make(schema)
            for at in range(200):
                self.timed(book.add, "t", (at, f"x{at * 7 % 200}"))
            self.timed(book.session.commit)
            book = Book(versions.begin(serial))
            self.timed(book.add_index, "t", ("ia", ("b", "a"), True))
            for at in range(200):
                self.timed(book.change, "t", (at,), (at, f"y{at}"))
            self.assertEqual(len(self.timed(book.rows_of, "t")), 200)
            self.assertEqual(len(self.timed(book.keys_through, "t", ("index", "ia", None, None))), 200)
            self.timed(book.drop, "t")
            self.timed(book.session.commit)

    def test_nodes(self):
        keys = tuple(f"k{at:03d}" for at in range(700))
        notes = tuple(("entries", key + "x", key + "y", ()) for key in keys[::23])
        notes += tuple(("value", key + "z", None) for key in keys[::23])
        for own in (keys[::10], keys[::70]):
            nodes = {number: (number, number - 1, notes, own) for number in range(1, 201)}
            self.assertEqual(self.timed(order_of_nodes, nodes), tuple(range(1, 201)))
            self.assertEqual(self.timed(kept_nodes, nodes, ()), {})
            self.assertEqual(self.timed(pivots, nodes), [])
            self.assertIsNone(self.timed(ring_through, nodes, 1))

    def test_looks(self):
        schema = ("t", (("a", "int", False), ("b", "int", True), ("c", "truth", True), ("d", "text", True)), ("a",),
                  (("ib", ("b", "d"), False), ("ic", ("d",), True)), (("less", "a", 1000),))
        versions = Versions(Store(fresh_disk(2, 196, 1000)))
        book = Book(versions.begin())
        book.make(schema)
        for at in range(400):
            book.add("t", (at, at % 7 - 3, None if at % 3 else at % 2 == 0, None if at % 4 else f"x{at}"))
        condition = ("or", ("is", "b", 2), ("and", ("less", "a", 200), ("not", ("none", "d"))))
        for _ in range(4):
            condition = ("or", condition, ("and", ("is", "b", 9), condition))
        whole = ("t", None, None, (), None)
        for serial in (False, True):
            for question in (whole, ("t", condition, ("d", "a"), (("c", True), ("b", False)), None),
                             ("t", None, ("a",) * 2000, (("b", True), ("c", False)) * 400, 400)):
                self.assertEqual(self.timed(look, book, question), self.timed(plain_answer, book, question))
                found = self.timed(plans, book, question)
                self.timed(plan_cost, book, question, found[-1])
                self.timed(best_plan, book, question)
                self.timed(totals, book, question, (0,) * 1500, (1,) * 1500 if question[2] is None else ())
            for road in ("loops", "order", "marks"):
                self.assertEqual(len(self.timed(paired, book, whole, whole, (), road)), 160000)
                self.timed(paired, book, whole, whole, ((1, 1),) * 900, road)
                self.timed(paired, book, question, question, tuple((at, at) for at in range(900)), road)
            if not serial:
                self.timed(book.session.commit)
                book = Book(versions.begin(True))

    def test_batches_and_letters(self):
        disk = fresh_disk(120, 78, 1000)
        versions = Versions(Store(disk))
        batch, keeper, follower = Batch(versions, 7), Keeper(versions), Follower(Store(fresh_disk(120, 78, 1000)))
        for at in range(150):
            session = versions.begin(at % 5 == 0)
            session.put(f"k{at:03d}", "v" * 50)
            self.timed(batch.commit, session)
        session = versions.begin()
        session.put_all(tuple((f"p{at:03d}", "v" * 30) for at in range(60)))
        self.timed(keeper.prepare, session, "p")
        self.timed(batch.done)
        self.timed(keeper.settle, "p")
        self.assertEqual(self.timed(standing, versions.store), 151)
        self.assertEqual(len(self.timed(feed, versions.store, 0)), 151)
        for letter in self.timed(letters_from, versions.store, 0)[::-1]:
            text = self.timed(letter_text, letter)
            self.timed(follower.hear, self.timed(letter_told, text))
        self.assertEqual(follower.number, 151)
        for letter in self.timed(copy_letters, versions.store, 151, 1) + self.timed(follower.letters, 1):
            self.timed(Follower(follower.store).hear, letter)
        self.timed(letter_told, "P00000001" + "+0001a9999" + "x" * 9999)
        self.assertEqual(len(self.timed(told_history, versions)), 151)

    def test_commands(self):
        condition = ("is", "abcdefgh", 10 ** 30 - 1)
        for at in range(11):
            condition = ("or", condition, condition) if at < 7 else ("not", condition)
        for pieces in (("look", "a", ("t", condition, None, (), None)),
                       ("add", "a", "t", tuple(range(2900))), ("put", "a", "'" * 200, "'" * 200)):
            text = self.timed(command_text, pieces)
            self.assertEqual(self.timed(command_told, text), pieces)
            self.assertEqual(self.timed(self.refused, InvalidCommand, command_told, text + "x").index, len(text))
        self.timed(self.refused, Refused, command_text, pieces + ((1,) * 2900,))
        server = Server(fresh_disk(120, 70, 1000))
        for at in range(150):
            for command in ("begin a", f"put a 'k{at}' 'x'", "later a", "state"):
                self.timed(server.execute, command)
        for command in ("order", "begin a", "range a none none", "sync", "checkpoint"):
            self.timed(server.execute, command)

    def test_judges(self):
        keys = [f"k{at:02d}" for at in range(12)]
        history = tuple((max(0, number - 3), True, (("value", keys[number % 12], None), ("entries", "k03", "k05", ())) * 6,
                         tuple((key, "x") for key in sorted({keys[number * 5 % 12], keys[number * 7 % 12]})))
                        for number in range(40))
        order = tuple(range(1, 41))
        for call in (edges_of, ring_of, pivots_of, order_of):
            self.timed(call, history)
        for call in (is_ring, keeps_edges, is_right_order):
            self.timed(call, history, order)
        for call in (is_snapshot_history, lambda entries, told: is_serial_order(entries, told, order),
                     lambda entries, told: past_of(entries, told, 40)):
            self.timed(call, (), history)
        plain = tuple((0, True, (("value", f"x{at}", None),) * 40, tuple((f"k{at}{key:02d}", "") for key in range(60)))
                      for at in range(6))
        self.assertEqual(len(self.timed(right_orders, plain)), 720)


if __name__ == "__main__":
    unittest.main()
