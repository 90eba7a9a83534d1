from itertools import permutations
from random import Random
import unittest

from heldpasts.errors import InvalidNumber
from heldpasts.serial import kept_nodes, leads, order_of, pivots, ring_through
from tests.helpers import WRONG_INTEGERS, Case
from tests.serials import is_right, keeps_leads, lead_words, nodes_by_chance, right_orders, rings_from

READ_A = ("value", "a", None)


def node(number, snapshot=0, notes=(), keys=()):
    return (number, snapshot, notes, tuple(keys))


def nodes_of(*members):
    return {member[0]: member for member in members}


class LeadsTest(Case):
    def test_both_changed_a_key(self):
        self.assertIs(leads(node(1, keys="a"), node(2, keys="ab")), True)
        self.assertIs(leads(one=node(2, keys="ab"), other=node(1, keys="a")), False)
        self.assertIs(leads(node(1, keys="a"), node(2, keys="b")), False)
        self.assertIs(leads(node(1), node(2)), False)

    def test_one_changed_what_the_other_read(self):
        for snapshot, told in ((4, False), (5, True), (6, True)):
            self.assertIs(leads(node(5, keys="a"), node(9, snapshot, (READ_A,))), told)
        self.assertIs(leads(node(5, keys="b"), node(9, 8, (READ_A,))), False)

    def test_one_read_what_the_other_changed_behind(self):
        for number, told in ((4, False), (5, False), (6, True)):
            self.assertIs(leads(node(9, 5, (READ_A,)), node(number, keys="a")), told)
        self.assertIs(leads(node(9, 5, (READ_A,)), node(6, keys="b")), False)
        # The greater number may lead the less one.
        self.assertIs(leads(node(9, 5, (READ_A,)), node(6, 5, (), "a")), True)

    def test_stretches(self):
        for low, high, told in (("a", "c", True), ("b", "c", True), ("a", "b", False), ("bb", None, False),
                                (None, None, True), (None, "b", False), (None, "bb", True), ("b", None, True),
                                ("c", "a", False), ("b", "b", False)):
            notes = (("value", "x", None), ("entries", low, high, ()))
            self.assertIs(leads(node(2, 0, notes), node(1, keys="b")), told)
            self.assertIs(leads(node(2, 0, notes), node(1, keys=("", "b", "z"))), told or low is None or high is None)
            self.assertIs(leads(node(1, keys="b"), node(2, 1, notes)), told)
            # The entries that a note tells do not matter.
            told_notes = (("entries", low, high, (("b", "1"),)),)
            self.assertIs(leads(node(2, 0, told_notes), node(1, keys="b")), told)

    def test_by_the_words(self):
        met = {}
        for seed in range(3000):
            nodes = list(nodes_by_chance(Random(seed), 2, 4).values())
            for one, other in (nodes, nodes[::-1]):
                words = lead_words(one, other)
                met[words] = True
                self.assertIs(leads(one, other), bool(words), (one, other))
        self.assertTrue({"", "w", "r", "o", "wr", "wo"} <= set(met))


class RingTest(Case):
    def test_ring_through(self):
        two = nodes_of(node(1, 0, (READ_A,), "b"), node(2, 0, (("value", "b", None),), "a"))
        self.assertEqual(ring_through(two, 1), (1, 2))
        self.assertEqual(ring_through(nodes=two, number=2), (2, 1))
        self.assertIsNone(ring_through(nodes_of(node(1, keys="a"), node(2, keys="a")), 2))
        self.assertIsNone(ring_through(two, 3))
        self.assertIsNone(ring_through({}, 1))
        for value in WRONG_INTEGERS:
            self.refused(InvalidNumber, ring_through, two, value)
        # A node that would lead itself makes no ring.
        self.assertIsNone(ring_through(nodes_of(node(1, 0, (READ_A,), "a")), 1))

    def test_the_shortest_and_the_first(self):
        sizes = {}
        for seed in range(2500):
            chance = Random(seed)
            nodes = nodes_by_chance(chance, chance.randrange(1, 7), chance.randrange(2, 4))
            for number in nodes:
                ring = next(rings_from(nodes, number), None)
                self.assertEqual(ring_through(nodes, number), ring)
                sizes[ring and len(ring)] = True
        self.assertTrue({None, 2, 3, 4} <= set(sizes))

    def test_nothing_is_changed(self):
        nodes = nodes_by_chance(Random(5), 6)
        before = dict(nodes)
        ring_through(nodes, 1) if 1 in nodes else None
        order_of(nodes)
        pivots(nodes)
        kept_nodes(nodes, [0, 3])
        self.assertEqual((nodes, list(nodes)), (before, list(before)))


class OrderTest(Case):
    def plain_order(self, nodes):
        left, order = dict(nodes), []
        while left:
            free = [one for one in left if not any(other != one and lead_words(left[other], left[one])
                                                   for other in left)]
            if not free:
                return None
            order.append(min(free))
            del left[min(free)]
        return tuple(order)

    def test_order_of(self):
        self.assertEqual(order_of({}), ())
        self.assertEqual(order_of(nodes=nodes_of(node(2, keys="a"), node(1, keys="a"))), (1, 2))
        self.assertEqual(order_of(nodes_of(node(2, 0, (READ_A,)), node(1, keys="a"), node(3))), (2, 1, 3))
        self.assertIsNone(order_of(nodes_of(node(1, 0, (READ_A,), "b"), node(2, 0, (("value", "b", None),), "a"))))

    def test_by_the_words(self):
        told = {}
        for seed in range(1500):
            chance = Random(seed)
            nodes = nodes_by_chance(chance, chance.randrange(9), 2)
            order = self.plain_order(nodes)
            self.assertEqual(order_of(nodes), order)
            told[order is None, order != tuple(sorted(nodes))] = True
        self.assertEqual(len(told), 3)

    def test_right_orders_are_those_that_keep_what_leads(self):
        """Fact H."""
        rings = {}
        for seed in range(500):
            nodes = nodes_by_chance(Random(seed), 4, 3)
            found = 0
            for order in permutations(nodes):
                self.assertEqual(is_right(nodes, order), keeps_leads(nodes, order), (nodes, order))
                found += is_right(nodes, order)
            self.assertEqual(order_of(nodes) is not None, found > 0)
            self.assertEqual(any(ring_through(nodes, number) for number in nodes), found == 0)
            if found:
                self.assertEqual(order_of(nodes), right_orders(nodes)[0])
            rings[found == 0] = True
        self.assertEqual(len(rings), 2)


class PivotTest(Case):
    def plain_pivots(self, nodes):
        return sorted((one, two, three) for one in nodes for two in nodes for three in nodes
                      if one != two and two != three and three < two and three <= one
                      and "o" in lead_words(nodes[one], nodes[two]) and "o" in lead_words(nodes[two], nodes[three]))

    def test_pivots(self):
        self.assertEqual(pivots({}), [])
        two = nodes_of(node(1, 0, (READ_A,), "b"), node(2, 0, (("value", "b", None),), "a"))
        self.assertEqual(pivots(nodes=two), [(1, 2, 1)])

    def test_by_the_words(self):
        found = 0
        for seed in range(1000):
            chance = Random(seed)
            nodes = nodes_by_chance(chance, chance.randrange(9), 3)
            self.assertEqual(pivots(nodes), self.plain_pivots(nodes))
            found += len(pivots(nodes)) > 1
        self.assertGreater(found, 30)

    def test_each_ring_has_a_pivot(self):
        """Fact H2."""
        found = 0
        for seed in range(1500):
            nodes = nodes_by_chance(Random(seed), 5, 3, apart=True)
            told = pivots(nodes)
            for number in nodes:
                for ring in rings_from(nodes, number):
                    found += 1
                    self.assertTrue(any(three == min(ring) and (one, two, three) in told
                                        for one, two, three in zip(ring, ring[1:] + ring, ring[2:] + ring + ring)))
        self.assertGreater(found, 100)


class KeptTest(Case):
    def plain_kept(self, nodes, snapshots):
        left = dict(nodes)
        while True:
            gone = [number for number in left if all(number <= snapshot for snapshot in snapshots)
                    and not any(other != number and lead_words(left[other], left[number]) for other in left)]
            if not gone:
                return left
            for number in gone:
                del left[number]

    def test_kept_nodes(self):
        chain = nodes_of(node(1, keys="a"), node(2, keys="a"), node(3, keys="a"))
        self.assertEqual(kept_nodes(nodes=chain, snapshots=[]), {})
        self.assertEqual(kept_nodes(chain, [5, 2]), {3: chain[3]})
        self.assertEqual(kept_nodes(chain, (2, 1)), {2: chain[2], 3: chain[3]})
        self.assertEqual(kept_nodes(chain, [0]), chain)
        self.assertIsNot(kept_nodes(chain, [0]), chain)
        # One that is led by a kept one is kept, too.
        nodes = nodes_of(node(1, keys="a"), node(2, 0, (READ_A,)))
        self.assertEqual([sorted(kept_nodes(nodes, [snapshot])) for snapshot in range(3)], [[1, 2], [1, 2], []])

    def test_by_the_words(self):
        sizes = {}
        for seed in range(1500):
            chance = Random(seed)
            nodes = nodes_by_chance(chance, chance.randrange(9), 3)
            snapshots = [chance.randrange(14) for _ in range(chance.randrange(3))]
            kept = kept_nodes(nodes, snapshots)
            self.assertEqual(kept, self.plain_kept(nodes, snapshots))
            sizes[0 < len(kept) < len(nodes)] = True
        self.assertEqual(len(sizes), 2)


if __name__ == "__main__":
    unittest.main()
