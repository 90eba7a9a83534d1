"""Fact O, its five parts, by all sequences: of histories by chance, of all small ones, and of told ones."""

from itertools import product
from random import Random
import unittest

from heldpasts.judge import (is_right_order, is_ring, is_serial_order, is_snapshot_history, keeps_edges, order_of,
                             pivots_of, right_orders, ring_of, told_history)
from tests.helpers import Case
from tests.judges import history_by_chance, keys_of, plain_rings, sequences
from tests.test_serial_sessions import play


def unlike_values(entries, history):
    """The same with values unlike each other and those of the entries, no key going, and the notes as they are then."""
    told = []
    past = [dict(entries)]
    for number, (snapshot, serial, notes, changes) in enumerate(history, 1):
        own = tuple((key, f"{number}{key}") for key, _ in changes)
        again = []
        for note in notes:
            if note[0] == "value":
                again.append(note[:2] + (past[snapshot].get(note[1]),))
            else:
                inside = [(key, past[snapshot][key]) for key in sorted(past[snapshot])
                          if (note[1] is None or note[1] <= key) and (note[2] is None or key < note[2])]
                again.append(note[:3] + (tuple(inside),))
        past.append({**past[-1], **dict(own)})
        told.append((snapshot, serial, tuple(again), own))
    return tuple(told)


def small_histories():
    """All histories of two and three commits over few notes and changes that are snapshot histories."""
    notes = ((), (("value", "a", None),), (("value", "b", None),), (("entries", None, None, ()),))
    changes = ((), (("a", "1"),), (("b", "1"),))
    for serial, one, own, other, own_other, at in product((True, False), notes, changes, notes, changes, (0, 1)):
        yield ((0, True, one, own), (at, serial, other, own_other))
    for one, own, other, own_other, third, at in product(notes[1:], changes[1:], notes[1:], changes[1:], notes, (0, 1)):
        yield ((0, True, one, own), (0, True, other, own_other), (at, True, third, (("c", "1"), ("d", None))))


class FactTest(Case):
    def look(self, entries, history):
        orders, right = sequences(history), right_orders(history)
        # (1)
        self.assertEqual(right, [order for order in orders if keeps_edges(history, order)])
        self.assertEqual(right, [order for order in orders if is_right_order(history, order)])
        self.assertEqual(order_of(history), right[0] if right else None)
        self.assertEqual(order_of(history) is None, ring_of(history) is not None)
        if not is_snapshot_history(entries, history):
            return False
        # (2)
        self.assertTrue(all(is_serial_order(entries, history, order) for order in right))
        # (4)
        pivots = pivots_of(history)
        for ring in plain_rings(history):
            self.assertTrue(is_ring(history, ring))
            turns = {(ring[at], ring[(at + 1) % len(ring)], ring[(at + 2) % len(ring)]) for at in range(len(ring))}
            self.assertTrue([pivot for pivot in turns & set(pivots) if pivot[2] == min(ring)], (history, ring))
        if not pivots:
            self.assertIsNone(ring_of(history))
        # (3)
        unlike = unlike_values(entries, history)
        self.assertTrue(is_snapshot_history(entries, unlike))
        in_numbers = [order for order in orders if all(
            order.index(one) < order.index(other) for one in order for other in order
            if one < other and set(keys_of(history, one)) & set(keys_of(history, other)))]
        self.assertEqual(right_orders(unlike), [order for order in in_numbers if is_serial_order(entries, unlike, order)])
        return True

    def test_by_chance(self):
        found = rings = 0
        for seed in range(2000):
            chance = Random(seed)
            entries, history = history_by_chance(chance, chance.choice((0, 1, 2, 3, 3, 4, 4)), seed % 5 > 0, chance.choice(("ab", "abc")))
            found += self.look(entries, history)
            rings += ring_of(history) is not None
        self.assertGreater(min(found / 4, rings), 60)

    def test_all_small_ones(self):
        found = sum(self.look((), history) for history in small_histories())
        self.assertGreater(found, 300)

    def test_five_commits(self):
        for seed in range(25):
            self.look(*history_by_chance(Random(seed), 5, True, "abc"))

    def test_told_histories(self):
        """(5): those of Versions, whose told order is a right sequence."""
        many = 0
        for seed in range(150):
            versions = play(Random(seed), 45, 4, lambda *_: lambda *_: None)
            history = told_history(versions)
            entries = tuple(versions.store.entries(None, None, versions.opened))
            self.assertTrue(is_snapshot_history(entries, history))
            order = tuple(number - versions.opened for number in versions.told_order())
            self.assertTrue(is_right_order(history, order))
            self.assertTrue(keeps_edges(history, order))
            self.assertTrue(is_serial_order(entries, history, order))
            self.assertIsNone(ring_of(history))
            if len(history) <= 4:
                many += self.look(entries, history)
        self.assertGreater(many, 30)


if __name__ == "__main__":
    unittest.main()
