from random import Random
import unittest

from heldpasts.errors import InvalidEntries, InvalidHistory, InvalidNumber, TooMany
from heldpasts.judge import (edges_of, is_given, is_history, is_note, is_right_order, is_ring, is_serial_order,
                             is_snapshot_history, keeps_edges, order_of, past_of, pivots_of, right_orders, ring_of,
                             told_history)
from heldpasts.prepared import Keeper
from heldpasts.sessions import Versions
from heldpasts.store import Store
from tests.helpers import WRONG_INTEGERS, Case
from tests.judges import (history_by_chance, plain_edges, plain_given, plain_keeps, plain_past, plain_pivots,
                          plain_right, plain_rings, plain_serial, plain_snapshot, sequences)
from tests.stores import fresh_store

VALUE = ("value", "a", "1")
STRETCH = ("entries", "a", "c", (("a", "1"), ("b", "2")))
NO_NOTES = (None, True, 0, "", "value", (), [], {}, list(VALUE), VALUE[:2], VALUE + (None,), ("value", "a", 1),
            ("value", None, "1"), ("value", 1, "1"), ("value", "\n", "1"), ("value", "a", "\x7f"), ("value", "a", ()),
            ("Value", "a", "1"), (None, "a", "1"), STRETCH[:3], STRETCH + (None,), list(STRETCH), ("entries", 1, None, ()),
            ("entries", None, True, ()), ("entries", "\n", None, ()), ("entries", "a", "b", None),
            ("entries", "a", "b", []), ("entries", "a", "b", (("a", None),)), ("entries", "a", "b", (["a", "1"],)),
            ("entries", None, None, (("b", "1"), ("a", "1"))), ("entries", None, None, (("a", "1"), ("a", "2"))),
            ("entries", None, None, (("a", "1", "2"),)), ("entries", None, None, ("ab",)), ("stretch", "a", "b", ()))
COMMIT = (0, True, (VALUE, STRETCH), (("a", "2"), ("b", None)))
NO_COMMITS = (None, True, 0, "", (), [], list(COMMIT), COMMIT[:3], COMMIT + (None,), (1,) + COMMIT[1:],
              (-1,) + COMMIT[1:], (None,) + COMMIT[1:], (False,) + COMMIT[1:], ("0",) + COMMIT[1:],
              (0, 1) + COMMIT[2:], (0, None) + COMMIT[2:], (0, True, None, ()), (0, True, [], ()), (0, True, VALUE, ()),
              (0, True, (VALUE, None), ()), (0, True, (("value", "a"),), ()), (0, True, (), None), (0, True, (), []),
              (0, True, (), (("b", "1"), ("a", "1"))), (0, True, (), (("a", 1),)))
NO_HISTORIES = (None, True, False, 0, "", "ab", [], [COMMIT], {}, COMMIT) + tuple((commit,) for commit in NO_COMMITS)
NO_ENTRIES = (None, True, 0, "", [], {}, ("a",), (("a",),), (("a", None),), (("a", 1),), (("b", "1"), ("a", "1")),
              (("a", "1"), ("a", "2")), [("a", "1")], (["a", "1"],), (("\n", "1"),))
ENTRIES = (("a", "1"), ("b", "2"))
CROSSED = ((0, True, (("value", "a", None),), (("b", "1"),)), (0, True, (("value", "b", None),), (("c", "1"),)))
RING = ((0, True, (("value", "a", None),), (("b", "1"),)), (0, True, (("value", "b", None),), (("a", "1"),)))
ANY = (None, True, 0, 1, "", "a", (), [], {}, (None,), ("1",), (True,), (1.0,), [1, 2], (0, 1), (1, 3), (-1, 1), (1, 1),
       (1, 2, 2), (2,), ((1, 2),), (True, 2), (1, 2, 3))


class NoteTest(Case):
    def test_notes(self):
        for value in (VALUE, STRETCH, ("value", "", None), ("entries", None, None, ()), ("entries", "b", "a", ENTRIES),
                      ("entries", None, "", (("", ""), (" ", "~")))):
            self.assertIs(is_note(value=value), True)
        for value in NO_NOTES:
            self.assertIs(is_note(value), False, value)

    def test_histories(self):
        for value in ((), (COMMIT,), (COMMIT, (1, False, (VALUE,), ())), (COMMIT, COMMIT, (2, True, (), ()))):
            self.assertIs(is_history(value=value), True)
        for value in NO_HISTORIES:
            self.assertIs(is_history(value), False, value)
        for commit in NO_COMMITS:
            self.assertIs(is_history((COMMIT, commit)), commit == (1,) + COMMIT[1:])
        self.assertIs(is_history((COMMIT, (2,) + COMMIT[1:])), False)

    def test_given(self):
        for value, told in ((VALUE, True), (("value", "a", None), False), (("value", "x", None), True),
                            (("value", "x", ""), False), (STRETCH, True), (("entries", None, None, ENTRIES), True),
                            (("entries", "a", "b", ENTRIES[:1]), True), (("entries", "a", "b", ENTRIES), False),
                            (("entries", "b", "a", ()), True), (("entries", "b", "a", ENTRIES), False),
                            (("entries", "c", None, ()), True), (("entries", None, "b", ()), False),
                            (("entries", "b", None, (("b", "x"),)), False)):
            self.assertIs(is_given(entries=ENTRIES, value=value), told, value)
        for value in NO_NOTES:
            self.assertIs(is_given(ENTRIES, value), False)

    def test_pasts(self):
        history = ((0, False, (), (("a", "1"), ("b", None))), (0, True, (("value", "a", None),), (("c", "2"),)))
        self.assertEqual([past_of((("b", "0"),), history, number) for number in range(3)],
                         [(("b", "0"),), (("a", "1"),), (("a", "1"), ("c", "2"))])
        self.assertEqual(past_of(entries=ENTRIES, history=(), number=0), ENTRIES)
        for number in WRONG_INTEGERS + (-1, 3, 10 ** 80):
            self.refused(InvalidNumber, past_of, (), history, number)


class ErrorTest(Case):
    def test_histories(self):
        for value in NO_HISTORIES:
            for call in (edges_of, ring_of, pivots_of, order_of, right_orders):
                self.refused(InvalidHistory, call, value)
            for call in (is_ring, keeps_edges, is_right_order):
                self.refused(InvalidHistory, call, value, None)
            self.refused(InvalidHistory, past_of, ENTRIES, value, None)
            self.refused(InvalidHistory, is_snapshot_history, ENTRIES, value)
            self.refused(InvalidHistory, is_serial_order, ENTRIES, value, ())

    def test_entries_ahead_of_histories(self):
        for value in NO_ENTRIES:
            self.refused(InvalidEntries, past_of, value, None, None)
            self.refused(InvalidEntries, is_snapshot_history, value, None)
            self.refused(InvalidEntries, is_serial_order, value, None, None)
            self.refused(InvalidEntries, is_given, value, VALUE)
            self.refused(InvalidEntries, is_given, value, None)

    def test_many_commits(self):
        self.assertEqual(len(right_orders(((0, False, (), ()),) * 6)), 720)
        self.assertEqual(self.refused(TooMany, right_orders, ((0, False, (), ()),) * 7).count, 6)
        self.refused(InvalidHistory, right_orders, ((0, False, (), ()),) * 7 + (None,))

    def test_values_of_all_kinds(self):
        for value in ANY:
            self.assertIs(is_ring(RING, value), False, value)
            self.assertIs(keeps_edges(CROSSED, value), False, value)
            self.assertIs(is_right_order(CROSSED, value), False, value)
            self.assertIs(is_serial_order((), CROSSED, value), False, value)


class SmallTest(Case):
    def test_example(self):
        self.assertEqual([edges_of(CROSSED), ring_of(CROSSED), order_of(CROSSED), right_orders(CROSSED)],
                         [((2, 1, "misses"),), None, (2, 1), [(2, 1)]])

    def test_by_name(self):
        self.assertEqual((edges_of(history=RING), ring_of(history=RING), pivots_of(history=RING),
                          order_of(history=RING), right_orders(history=RING)),
                         (((1, 2, "misses"), (2, 1, "misses")), (1, 2), ((1, 2, 1),), None, []))
        self.assertTrue(is_ring(history=RING, value=(2, 1)) and keeps_edges(history=CROSSED, value=(2, 1)))
        self.assertTrue(is_right_order(history=CROSSED, value=(2, 1)))
        self.assertTrue(is_serial_order(entries=(), history=CROSSED, value=(2, 1)))
        self.assertTrue(is_snapshot_history(entries=(), history=RING))

    def test_no_commits(self):
        self.assertEqual((edges_of(()), ring_of(()), pivots_of(()), order_of(()), right_orders(())),
                         ((), None, (), (), [()]))
        self.assertEqual([keeps_edges((), ()), is_right_order((), ()), is_serial_order(ENTRIES, (), ()),
                          is_snapshot_history(ENTRIES, ()), is_ring((), ()), keeps_edges((), (1,))],
                         [True, True, True, True, False, False])

    def test_edges(self):
        history = ((0, False, (), (("a", "1"),)), (1, True, (("entries", "a", "b", (("a", "1"),)),), (("b", "1"),)),
                   (0, True, (("value", "b", None),), (("a", None), ("b", "2"))), (3, False, (VALUE,), ()))
        self.assertEqual(edges_of(history), ((1, 2, "reads"), (1, 3, "writes"), (2, 3, "misses"), (2, 3, "writes"),
                                             (3, 2, "misses")))
        # Its own changes are none of those that a commit reads or misses.
        self.assertEqual(edges_of(((0, True, (("value", "a", None),), (("a", "1"),)),)), ())

    def test_rings(self):
        self.assertEqual([is_ring(RING, value) for value in ((1, 2), (2, 1), (1,), (1, 2, 1), [1, 2])],
                         [True, True, False, False, False])
        # A ring of three, and turned about none.
        history = tuple((0, True, (("value", key, None),), ((other, "1"),))
                        for key, other in (("a", "b"), ("b", "c"), ("c", "a")))
        self.assertEqual(ring_of(history), (1, 3, 2))
        self.assertEqual([is_ring(history, value) for value in ((1, 3, 2), (3, 2, 1), (2, 1, 3), (1, 2, 3), (1, 3))],
                         [True, True, True, False, False])
        self.assertEqual(pivots_of(history), ((3, 2, 1),))

    def test_snapshot_histories(self):
        self.assertTrue(is_snapshot_history((), RING))
        # The notes of commits that are not serial count, too.
        self.assertFalse(is_snapshot_history(ENTRIES, ((0, False, (("value", "a", None),), ()),)))
        self.assertTrue(is_snapshot_history(ENTRIES, ((0, False, (VALUE,), ()),)))
        for snapshot, told in ((0, False), (1, True)):
            self.assertIs(is_snapshot_history((), ((0, False, (), (("a", "1"),)), (snapshot, False, (), (("a", None),)))),
                          told)

    def test_serial_orders(self):
        self.assertEqual([order for order in sequences(CROSSED) if is_serial_order((), CROSSED, order)], [(2, 1)])
        # What stands behind all is to be the past of all.
        history = ((0, False, (), (("a", "1"),)), (1, False, (), (("a", "2"),)))
        self.assertEqual([is_serial_order((), history, order) for order in ((1, 2), (2, 1))], [True, False])
        history = ((0, False, (), (("a", "1"),)), (1, False, (), (("a", "1"),)))
        self.assertEqual([is_serial_order((), history, order) for order in ((1, 2), (2, 1))], [True, True])
        self.assertEqual(right_orders(history), [(1, 2)])
        # What commits that are not serial note is not asked.
        self.assertTrue(is_serial_order(ENTRIES, ((0, False, (("value", "a", None),), ()),), (1,)))


class WordsTest(Case):
    """Each function against the plain words."""

    def check(self, entries, history):
        many = len(history)
        self.assertTrue(is_history(history))
        self.assertEqual(edges_of(history), plain_edges(history))
        self.assertEqual(pivots_of(history), plain_pivots(history))
        self.assertEqual([past_of(entries, history, number) for number in range(many + 1)],
                         [plain_past(entries, history, number) for number in range(many + 1)])
        for number in range(many + 1):
            past = plain_past(entries, history, number)
            for note in [note for commit in history for note in commit[2]]:
                self.assertIs(is_given(past, note), plain_given(past, note))
        self.assertIs(is_snapshot_history(entries, history), plain_snapshot(entries, history))
        rings = plain_rings(history)
        self.assertEqual(ring_of(history), rings[0] if rings else None)
        orders = sequences(history)
        for value in orders + sequences(history[1:]):
            self.assertIs(is_ring(history, value), value in rings)
        kept = [order for order in orders if plain_keeps(history, order)]
        self.assertEqual([order for order in orders if keeps_edges(history, order)], kept)
        self.assertEqual(order_of(history), kept[0] if kept else None)
        right = [order for order in orders if plain_right(history, order)]
        self.assertEqual([order for order in orders if is_right_order(history, order)], right)
        self.assertEqual(right_orders(history), right)
        self.assertEqual([order for order in orders if is_serial_order(entries, history, order)],
                         [order for order in orders if plain_serial(entries, history, order)])
        return bool(rings)

    def test_by_chance(self):
        rings = 0
        for seed in range(1500):
            chance = Random(seed)
            entries, history = history_by_chance(chance, chance.choice((0, 1, 2, 3, 3, 4, 4)), seed % 3 > 0, chance.choice(("ab", "abc")))
            rings += self.check(entries, history)
        self.assertGreater(rings, 50)

    def test_five_commits(self):
        for seed in range(12):
            entries, history = history_by_chance(Random(seed), 5, seed % 2 == 0, "abc")
            self.check(entries, history)


class ToldTest(Case):
    def test_numbers_from_the_making(self):
        store = fresh_store()
        store.add((("a", "0"),))
        store.add((("b", "0"),))
        store.sync()
        versions = Versions(Store(store.disk))
        self.assertEqual(told_history(versions), ())
        elder, serial = versions.begin(at=0), versions.begin(True)
        serial.value_at("a")
        serial.put("c", "1")
        elder.put("d", "1")
        one = versions.begin()
        one.put("a", "1")
        self.assertEqual([one.commit(), elder.commit(), serial.commit()], [3, 4, 5])
        keeper = Keeper(versions)
        session = versions.begin(at=3)
        session.put("e", "1")
        keeper.prepare(session, "p")
        keeper.settle("p")
        history = ((0, False, (), (("a", "1"),)), (0, False, (), (("d", "1"),)),
                   (0, True, (("value", "a", "0"),), (("c", "1"),)), (3, False, (), (("e", "1"),)))
        self.assertEqual(told_history(versions=versions), history)
        self.assertTrue(is_history(history))
        self.assertTrue(is_snapshot_history((("a", "0"), ("b", "0")), history))
        self.assertEqual(tuple(number - versions.opened for number in versions.told_order()), (2, 3, 1, 4))
        self.assertTrue(is_right_order(history, (2, 3, 1, 4)))


if __name__ == "__main__":
    unittest.main()
