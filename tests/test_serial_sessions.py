"""Facts H and H3 of the sessions: a commit is refused just if no sequence of all commits with it is right."""

from itertools import permutations
from random import Random
import unittest

from heldpasts.errors import Conflict, NotSerial
from heldpasts.serial import order_of, ring_through
from heldpasts.sessions import Versions
from tests.helpers import Case
from tests.serials import KEYS, is_right, right_orders, rings_from
from tests.stores import fresh_store


def act(session, chance):
    """One read or change by chance."""
    word, key = chance.randrange(5), chance.choice(KEYS)
    if word == 0:
        session.value_at(key)
    elif word == 1:
        session.entries(chance.choice((None, "a", "b", "bb", "c")), chance.choice((None, "b", "c", "cc", "e")),
                        chance.randrange(2) == 1)
    elif word == 2:
        session.take(key)
    else:
        session.put(key, str(chance.randrange(1000)))


def node_of(versions, session):
    """The node that a commit of the session would have."""
    return (versions.number + 1, session.snapshot, session.notes, tuple(key for key, _ in session.changes))


def nodes_of(history):
    return {at + 1: (at + 1, snapshot, notes, tuple(key for key, _ in changes))
            for at, (snapshot, _, notes, changes) in enumerate(history)}


def play(chance, turns, most_open, may_commit):
    """Some sessions side by side; may_commit is asked ahead of each commit, and told what came of it."""
    versions, open_ones = Versions(fresh_store(pages=100, log_blocks=30)), []
    for _ in range(turns):
        word = chance.randrange(7)
        if word < 2 and len(open_ones) < most_open:
            serial = chance.randrange(4) > 0
            at = versions.number if serial or chance.randrange(2) else chance.randrange(versions.number + 1)
            open_ones.append(versions.begin(serial, at))
        elif open_ones and word == 2:
            session = open_ones.pop(chance.randrange(len(open_ones)))
            node = node_of(versions, session)
            asked = may_commit(versions, session, node)
            try:
                if session.serial or session.changes:
                    asked(session.commit(), None)
                else:
                    session.commit()
            except NotSerial as error:
                asked(None, error.ring)
                session.drop()
            except Conflict:
                session.drop()
        elif open_ones:
            act(chance.choice(open_ones), chance)
    return versions


class ExactlyTest(Case):
    def test_example(self):
        versions = Versions(fresh_store(20, 4))
        one, two = versions.begin(serial=True), versions.begin(serial=True)
        self.assertEqual([one.value_at("a"), two.value_at("b"), one.put("b", "1"), two.put("a", "1"), one.commit()],
                         [None, None, None, None, 1])
        self.assertEqual(self.refused(NotSerial, two.commit).ring, (2, 1))
        self.assertEqual(versions.told_order(), (1,))

    def test_refused_just_if_no_sequence_is_right(self):
        told = {}
        for seed in range(1500):
            def may_commit(versions, session, node):
                nodes = nodes_of(versions.history())
                nodes[node[0]] = node

                def asked(number, ring):
                    if len(nodes) <= 5:
                        self.assertEqual(ring is None, bool(right_orders(nodes)))
                        told[ring is None] = told.get(ring is None, 0) + 1
                    if len(nodes) <= 6:
                        self.assertEqual(ring, next(rings_from(nodes, node[0]), None))
                return asked

            versions = play(Random(seed), 40, 4, may_commit)
            nodes = nodes_of(versions.history())
            self.assertEqual(versions.told_order(), order_of(nodes))
            self.assertTrue(is_right(nodes, versions.told_order()))
        self.assertGreater(min(told[True], told[False]), 40)

    def test_what_was_forgotten_changes_no_later_answer(self):
        """Fact H3, also in longer histories."""
        refused = 0
        rings = []
        for seed in range(250):
            def may_commit(versions, session, node):
                nodes = nodes_of(versions.history())
                nodes[node[0]] = node

                def asked(number, ring):
                    self.assertEqual(ring, ring_through(nodes, node[0]))
                    if ring is not None:
                        rings.append(len(ring))
                return asked

            versions = play(Random(seed), 150, 7, may_commit)
            self.assertEqual(versions.told_order(), order_of(nodes_of(versions.history())))
            self.assertIsNotNone(versions.told_order())
            # Much was forgotten.
            refused += len(versions.kept) < len(versions.history())
        self.assertGreater(refused, 200)
        self.assertTrue({2, 3} <= set(rings))

    def test_done_in_the_told_order_each_reads_what_it_read(self):
        for seed in range(200):
            versions = play(Random(seed), 80, 5, lambda *_: lambda *_: None)
            plain = {}
            for number in versions.told_order():
                _, serial, notes, changes = versions.history()[number - 1]
                for note in notes if serial else ():
                    if note[0] == "value":
                        self.assertEqual(plain.get(note[1]), note[2])
                    else:
                        inside = [(key, value) for key, value in sorted(plain.items())
                                  if (note[1] is None or note[1] <= key) and (note[2] is None or key < note[2])]
                        self.assertEqual(tuple(inside), note[3])
                for key, value in changes:
                    plain.pop(key, None)
                    if value is not None:
                        plain[key] = value
            self.assertEqual(sorted(plain.items()), versions.store.entries(None, None, versions.number))


class KeptTest(Case):
    def test_no_serial_session_is_open(self):
        versions = Versions(fresh_store())
        for at in range(6):
            session = versions.begin(serial=at % 2 == 0)
            session.value_at("a")
            session.put("a", str(at))
            session.commit()
        session = versions.begin(serial=True)
        versions.check_commit(session)
        self.assertEqual((versions.kept, versions.told_order()), ({}, (1, 2, 3, 4, 5, 6)))

    def test_an_elder_serial_session_keeps_them(self):
        versions = Versions(fresh_store())
        elder = versions.begin(serial=True)
        elder.value_at("a")
        for at in range(4):
            session = versions.begin()
            session.put("a", str(at))
            session.commit()
        # A snapshot of a session that is not serial keeps nothing, and this one keeps all.
        versions.check_commit(versions.begin())
        self.assertEqual(sorted(versions.kept), [1, 2, 3, 4])
        elder.put("b", "1")
        self.assertEqual(elder.commit(), 5)
        versions.begin(at=0)
        versions.check_commit(versions.begin(serial=True))
        self.assertEqual(versions.kept, {})
        self.assertEqual(versions.told_order(), (5, 1, 2, 3, 4))

    def test_commits_that_are_not_serial_stand_in_rings(self):
        versions = Versions(fresh_store())
        one, two, three = versions.begin(True), versions.begin(True), versions.begin()
        one.value_at("a")
        one.put("b", "1")
        two.value_at("b")
        two.put("c", "1")
        three.put("a", "1")
        self.assertEqual((one.commit(), three.commit()), (1, 2))
        late = versions.begin(True)
        late.value_at("a")
        late.value_at("c")
        late.put("z", "1")
        self.assertEqual(late.commit(), 3)
        # two is ahead of one (b), one ahead of three (a), three ahead of late (a), late ahead of two (c).
        self.assertEqual(self.refused(NotSerial, two.commit).ring, (4, 1, 2, 3))

    def test_all_sequences_of_two_that_cross(self):
        for words in permutations(("one reads", "two reads", "one puts", "two puts")):
            versions = Versions(fresh_store())
            one, two = versions.begin(True), versions.begin(True)
            deeds = {"one reads": lambda: one.value_at("a"), "two reads": lambda: two.entries("b", "c"),
                     "one puts": lambda: one.put("b", "1"), "two puts": lambda: two.put("a", "1")}
            for word in words:
                deeds[word]()
            one.commit()
            self.refused(NotSerial, two.commit)
            two.drop()


if __name__ == "__main__":
    unittest.main()
