from random import Random
import unittest

from heldpasts.disk import Disk
from heldpasts.errors import (Conflict, Ended, Held, InvalidChanges, InvalidNumber, InvalidText, LogFull, NotSerial,
                              PowerCut, StoreFull, TooLong)
from heldpasts.holds import hold_marks
from heldpasts.meaning import meaning_of
from heldpasts.pages import fresh_image
from heldpasts.sessions import Session, Versions
from heldpasts.store import Store
from heldpasts.tree import entry_room
from tests.helpers import WRONG_INTEGERS, WRONG_TEXTS, Case
from tests.stores import changes_by_chance, fresh_store
from tests.test_store import WRONG_CHANGES, state_of


def state_of_versions(versions, *sessions):
    """All that can be seen of a Versions, its store, and some sessions."""
    return (state_of(versions.store), versions.number, versions.opened, versions.snapshots(), versions.history(),
            versions.told_order(), dict(versions.holds), [state_of_session(session) for session in sessions])


def state_of_session(session):
    return (session.snapshot, session.serial, session.ended, session.changes, session.notes, session.guards)


class SessionCase(Case):
    def setUp(self):
        self.store = fresh_store()
        self.store.add((("a", "1"), ("b", "1")))
        self.store.add((("a", "2"), ("c", "2")))
        self.versions = Versions(self.store)

    def committed(self, *changes):
        """Another session's commit of these changes."""
        session = self.versions.begin()
        session.put_all(changes)
        return session.commit()

    def unchanged(self, sessions, kind, call, *members, **names):
        """The call raises just this error and changes nothing."""
        before = state_of_versions(self.versions, *sessions)
        error = self.refused(kind, call, *members, **names)
        self.assertEqual(state_of_versions(self.versions, *sessions), before)
        return error


class BeginTest(SessionCase):
    def test_a_new_versions(self):
        self.assertIs(self.versions.store, self.store)
        self.assertEqual((self.versions.number, self.versions.opened, self.versions.holds), (2, 2, {}))
        self.assertEqual((self.versions.snapshots(), self.versions.history(), self.versions.told_order()), ([], (), ()))
        self.assertEqual(Versions(store=fresh_store()).number, 0)

    def test_begin(self):
        session = self.versions.begin()
        self.assertIs(type(session), Session)
        self.assertEqual(state_of_session(session), (2, False, False, (), (), ()))
        self.assertEqual(state_of_session(self.versions.begin(True)), (2, True, False, (), (), ()))
        self.assertEqual(state_of_session(self.versions.begin(serial=True, at=2))[:2], (2, True))
        self.assertEqual([self.versions.begin(False, at).snapshot for at in range(3)], [0, 1, 2])

    def test_numbers(self):
        for at in WRONG_INTEGERS[1:] + (-1, 3, 10 ** 70):
            self.unchanged((), InvalidNumber, self.versions.begin, False, at)
            self.unchanged((), InvalidNumber, self.versions.begin, True, at)
        self.unchanged((), InvalidNumber, self.versions.begin, True, 1)
        self.unchanged((), InvalidNumber, self.versions.begin, serial=True, at=0)
        self.versions.vacuum(1)
        self.unchanged((), InvalidNumber, self.versions.begin, False, 0)
        self.assertEqual(self.versions.begin(False, 1).snapshot, 1)

    def test_snapshots(self):
        sessions = [self.versions.begin(False, at) for at in (2, 1, 2, 0, 1)]
        self.assertEqual(self.versions.snapshots(), [0, 1, 2])
        sessions[3].drop()
        sessions[1].commit()
        self.assertEqual(self.versions.snapshots(), [1, 2])
        sessions[4].drop()
        self.assertEqual(self.versions.snapshots(), [2])
        self.versions.snapshots().clear()
        self.assertEqual(self.versions.snapshots(), [2])


class ReadTest(SessionCase):
    def test_reads_of_a_snapshot(self):
        elder, newer = self.versions.begin(at=1), self.versions.begin()
        self.committed(("a", None), ("b", "3"), ("d", "3"))
        self.assertEqual([elder.value_at(key) for key in "abcd"], ["1", "1", None, None])
        self.assertEqual([newer.value_at(key=key) for key in "abcd"], ["2", "1", "2", None])
        self.assertEqual(elder.entries(None, None), [("a", "1"), ("b", "1")])
        self.assertEqual(newer.entries(low="b", high=None, back=True), [("c", "2"), ("b", "1")])
        self.assertEqual(self.versions.begin().entries(None, None), [("b", "3"), ("c", "2"), ("d", "3")])

    def test_own_changes_are_laid_over(self):
        session = self.versions.begin()
        session.put("aa", "x")
        session.put("b", "y")
        session.take("c")
        session.take("zz")
        self.assertEqual([session.value_at(key) for key in ("a", "aa", "b", "c", "zz")], ["2", "x", "y", None, None])
        whole = [("a", "2"), ("aa", "x"), ("b", "y")]
        self.assertEqual(session.entries(None, None), whole)
        self.assertEqual(session.entries(None, None, True), whole[::-1])
        self.assertEqual(session.entries("aa", "b"), whole[1:2])
        self.assertEqual(session.entries("aa", "c", back=True), whole[:0:-1])
        self.assertEqual((session.entries("b", "a"), session.entries("b", "b"), session.entries("c", None)),
                         ([], [], []))
        self.assertEqual(session.changes, (("aa", "x"), ("b", "y"), ("c", None), ("zz", None)))
        session.put("c", "z")
        session.take("aa")
        self.assertEqual(session.changes, (("aa", None), ("b", "y"), ("c", "z"), ("zz", None)))
        self.assertEqual(session.entries(None, None), [("a", "2"), ("b", "y"), ("c", "z")])
        # Nobody else sees them.
        self.assertEqual(self.versions.begin().entries(None, None), [("a", "2"), ("b", "1"), ("c", "2")])

    def test_notes(self):
        session = self.versions.begin(serial=True)
        session.value_at("x")
        session.put("b", "own")
        session.value_at("b")
        session.entries("b", None, back=True)
        session.value_at("a")
        session.value_at("x")
        session.entries("b", None)
        session.entries(None, None)
        session.take("a")
        session.value_at("a")
        session.entries("b", None, True)
        notes = (("value", "x", None), ("entries", "b", None, (("b", "1"), ("c", "2"))), ("value", "a", "2"),
                 ("entries", None, None, (("a", "2"), ("b", "1"), ("c", "2"))))
        self.assertEqual(session.notes, notes)
        for other in (self.versions.begin(), self.versions.begin(at=1)):
            other.value_at("a")
            other.entries(None, None)
            self.assertEqual(other.notes, ())

    def test_guards(self):
        session = self.versions.begin()
        guards = (("b", "c"), (None, None), ("c", "b"), ("b", None), (None, "b"))
        for low, high in guards + guards:
            self.assertIsNone(session.guard(low, high))
        session.guard(low="b", high="c")
        self.assertEqual(session.guards, guards)

    def test_by_chance(self):
        """Fact G: each read is that of the plain map of the snapshot with the own changes laid over."""
        for seed in range(60):
            chance = Random(seed)
            versions = Versions(fresh_store(pages=100))
            plain, sessions = [{}], []
            for _ in range(40):
                word = chance.randrange(6)
                if word == 0 and len(sessions) < 8:
                    at = chance.randrange(versions.store.least, versions.number + 1)
                    serial = at == versions.number and chance.randrange(2) == 0
                    sessions.append((versions.begin(serial, at), dict(plain[at]), {}))
                elif word == 1 and versions.number:
                    least = chance.randrange(versions.store.least, versions.number + 1)
                    if not versions.snapshots() or versions.snapshots()[0] >= least:
                        versions.vacuum(least)
                elif sessions:
                    session, seen, own = chance.choice(sessions)
                    if word == 2:
                        sessions = [other for other in sessions if other[0] is not session]
                        plain = self.ended(versions, session, own, plain)
                    else:
                        changes = changes_by_chance(chance, 3)
                        session.put_all(changes)
                        own.update(changes)
                        seen.update(changes)
                    self.look(chance, sessions, own, session)

    def ended(self, versions, session, own, plain):
        try:
            number = session.commit()
        except (Conflict, NotSerial):
            session.drop()
            return plain
        if not own and not session.serial:
            self.assertEqual(number, session.snapshot)
            return plain
        self.assertEqual((number, versions.number), (len(plain), len(plain)))
        past = {**plain[-1], **own}
        return plain + [{key: value for key, value in past.items() if value is not None}]

    def look(self, chance, sessions, own, session):
        self.assertEqual(dict(session.changes), own)
        self.assertEqual([key for key, _ in session.changes], sorted(own))
        for other, seen, _ in sessions:
            entries = sorted(entry for entry in seen.items() if entry[1] is not None)
            low, high = (chance.choice((None, "a", "bb", "d", "h")) for _ in range(2))
            inside = [entry for entry in entries
                      if (low is None or low <= entry[0]) and (high is None or entry[0] < high)]
            self.assertEqual(other.entries(low, high), inside)
            self.assertEqual(other.entries(low, high, True), inside[::-1])
            key = chance.choice("abc!")
            self.assertEqual(other.value_at(key), seen.get(key))


class ChangeTest(SessionCase):
    def test_put_all(self):
        session = self.versions.begin()
        self.assertIsNone(session.put_all(changes=()))
        self.assertIsNone(session.put_all((("b", None), ("c", "3"))))
        self.assertIsNone(session.put(key="a", value=""))
        self.assertIsNone(session.take(key="c"))
        self.assertEqual(session.changes, (("a", ""), ("b", None), ("c", None)))

    def test_room(self):
        session = self.versions.begin()
        room = entry_room(200)
        key, value = "k" * (room - 12), "x"
        session.put(key, value)
        session.put("", "x" * (room - 11))
        session.put("a b", "x" * (room - 15))
        session.take(key + "k")
        for call, members in ((session.put, (key, "xx")), (session.put, (key + "kk", "")),
                              (session.take, (key + "kk",)), (session.put, ("", "x" * (room - 10))),
                              (session.put, ("a b", "x" * (room - 14)))):
            self.assertEqual(self.unchanged((session,), TooLong, call, *members).text, members[0])
        changes = (("a", "1"), ("b", "x" * room), ("c", "x" * room))
        self.assertEqual(self.unchanged((session,), TooLong, session.put_all, changes).text, "b")

    def test_lists_stay_as_they_were(self):
        session = self.versions.begin(serial=True)
        session.put("a", "x")
        session.value_at("b")
        session.guard(None, None)
        before = (session.changes, session.notes, session.guards)
        session.put("b", "y")
        session.value_at("c")
        session.guard("a", None)
        self.assertEqual(before, ((("a", "x"),), (("value", "b", "1"),), ((None, None),)))


class CommitTest(SessionCase):
    def test_commit(self):
        session = self.versions.begin()
        session.put("a", "3")
        session.take("b")
        self.assertEqual(self.versions.commit(session=session, synced=True), 3)
        self.assertEqual((session.ended, self.versions.number, self.store.number), (True, 3, 3))
        self.assertEqual(meaning_of(self.store.disk.image, 200), self.store.meaning())
        self.assertEqual(self.store.entries(None, None, 3), [("a", "3"), ("c", "2")])
        self.assertEqual(self.versions.opened, 2)

    def test_without_a_sync(self):
        session = self.versions.begin()
        session.put("a", "3")
        image = self.store.disk.image
        self.assertEqual(self.versions.commit(session, False), 3)
        self.assertEqual((self.store.disk.image, len(self.store.disk.pending)), (image, 3))
        self.assertEqual(self.committed(("b", "3")), 4)
        self.assertEqual(self.store.disk.pending, ())

    def test_without_changes(self):
        before = state_of(self.store)
        for session in (self.versions.begin(), self.versions.begin(at=1)):
            session.guard(None, None)
            self.assertEqual(session.commit(), session.snapshot)
            self.assertTrue(session.ended)
        self.assertEqual((state_of(self.store), self.versions.history()), (before, ()))
        session = self.versions.begin(serial=True)
        session.value_at("a")
        self.assertEqual(session.commit(), 3)
        self.assertEqual(self.store.number, 3)
        self.assertEqual(self.versions.history(), ((2, True, (("value", "a", "2"),), ()),))

    def test_drop(self):
        session = self.versions.begin()
        session.put("a", "3")
        self.assertIsNone(session.drop())
        self.assertEqual((session.ended, self.versions.snapshots(), self.store.number), (True, [], 2))

    def test_conflict(self):
        session = self.versions.begin(at=1)
        for key in "xcba":
            session.put(key, "9")
        self.committed(("b", None), ("d", "3"))
        error = self.unchanged((session,), Conflict, session.commit)
        self.assertEqual(error.lot, ("a", "b", "c"))
        session = self.versions.begin(at=2)
        session.put("a", "9")
        self.assertEqual(session.commit(), 4)

    def test_conflict_of_guards(self):
        session = self.versions.begin(at=1)
        session.put("x", "9")
        session.guard("b", "c")
        session.guard("d", None)
        session.commit()
        session = self.versions.begin(at=1)
        session.put("y", "9")
        session.guard("b", "cc")
        session.guard("c", "a")
        self.assertEqual(self.unchanged((session,), Conflict, self.versions.commit, session).lot, ("c",))
        session.guard("a", None)
        session.put("x", "1")
        self.assertEqual(self.unchanged((session,), Conflict, session.commit).lot, ("a", "c", "x"))
        session.drop()

    def test_held(self):
        self.store.add((), hold_marks("p", ((("k", "1"),), (("b", "c"),)), 200), False)
        self.store.add((), hold_marks("o", ((("k", None), ("l", "1")), ()), 200), False)
        self.versions = Versions(self.store)
        self.assertEqual(self.versions.holds, {"o": ((("k", None), ("l", "1")), ()), "p": ((("k", "1"),),
                                                                                          (("b", "c"),))})
        session = self.versions.begin()
        session.put("bb", "1")
        self.assertEqual(self.unchanged((session,), Held, session.commit).lot, ("p",))
        session.take("k")
        self.assertEqual(self.unchanged((session,), Held, session.commit).lot, ("o", "p"))
        self.assertIsNone(self.versions.check_commit(session, held=False))
        self.assertEqual(self.unchanged((session,), Held, self.versions.check_commit, session).lot, ("o", "p"))
        # A guard of its own may have what they change; and others free keys.
        del self.versions.holds["o"], self.versions.holds["p"]
        self.assertEqual(session.commit(), 3)

    def test_errors_in_their_sequence(self):
        self.store.add((), hold_marks("p", ((("a", "1"),), ()), 200), False)
        self.versions = Versions(self.store)
        one, other = self.versions.begin(True), self.versions.begin(True)
        one.value_at("x")
        other.value_at("y")
        one.put("y", "1")
        other.put("x", "1")
        self.assertEqual(one.commit(), 3)
        self.assertEqual(self.unchanged((other,), NotSerial, other.commit).ring, (4, 3))
        other.put("a", "1")
        self.assertEqual(self.unchanged((other,), Held, other.commit).lot, ("p",))
        self.assertEqual(self.unchanged((other,), NotSerial, self.versions.check_commit, other, False).ring, (4, 3))
        other.put("y", "2")
        self.assertEqual(self.unchanged((other,), Conflict, other.commit).lot, ("y",))
        self.assertEqual(self.unchanged((other,), Conflict, self.versions.check_commit, other, False).lot, ("y",))
        self.assertFalse(other.ended)
        self.assertEqual(self.versions.snapshots(), [2])

    def test_what_add_raises(self):
        versions = self.versions = Versions(fresh_store(pages=2, log_blocks=2))
        session = versions.begin()
        session.put_all(tuple((f"k{at}", "x") for at in range(9)))
        session.commit()
        full = versions.begin()
        full.put("a", "y")
        full.commit()
        session = versions.begin()
        session.put("k0", "1")
        self.unchanged((session,), StoreFull, session.commit)
        session.put("a", "1")
        self.assertEqual(session.changes, (("a", "1"), ("k0", "1")))
        # A conflict comes first.
        elder = versions.begin(at=1)
        elder.put("a", "1")
        self.unchanged((session, elder), Conflict, elder.commit)

    def test_a_log_that_is_too_small(self):
        versions = Versions(fresh_store(log_blocks=1))
        session = versions.begin(serial=True)
        session.put_all(tuple((f"k{at:02d}", "x" * 20) for at in range(10)))
        self.refused(LogFull, session.commit)
        self.assertEqual((session.ended, versions.number, versions.history(), versions.told_order()),
                         (False, 0, (), ()))
        session.drop()

    def test_a_cut(self):
        versions = Versions(Store(Disk(fresh_image(5, 5, 200), 200, 1)))
        session = versions.begin()
        session.put("a", "1")
        self.refused(PowerCut, session.commit)
        self.assertFalse(session.ended)

    def test_check_commit_looks_at_nothing_else(self):
        session = self.versions.begin(at=1)
        session.guard("c", None)
        self.assertEqual(self.unchanged((session,), Conflict, self.versions.check_commit, session=session).lot, ("c",))
        self.assertEqual(session.commit(), 1)
        session = self.versions.begin()
        session.put("a", "1")
        session.drop()
        self.assertIsNone(self.versions.check_commit(session=session, held=True))

    def test_lay(self):
        node = (3, 1, (("value", "x", None),), ("a", "b"))
        changes, marks = (("a", "9"), ("b", None)), (("w", "t"),)
        number = self.versions.lay(node=node, serial=True, changes=changes, marks=marks, synced=False)
        self.assertEqual((number, self.versions.number, len(self.store.disk.pending)), (3, 3, 3))
        self.assertEqual((self.store.marks(), self.store.versions_of("a")[-1]), (marks, (3, "9")))
        self.assertEqual(self.versions.history(), ((1, True, node[2], changes),))
        self.assertEqual(self.versions.lay((4, 3, (), ()), False, (), (("w", None),), True), 4)
        self.assertEqual((self.store.disk.pending, self.store.marks(), self.versions.told_order()), ((), (), (3, 4)))
        for value in WRONG_CHANGES:
            self.unchanged((), InvalidChanges, self.versions.lay, (5, 4, (), ()), False, value, (), True)
            self.unchanged((), InvalidChanges, self.versions.lay, (5, 4, (), ()), False, (), value, True)
        self.unchanged((), TooLong, self.versions.lay, (5, 4, (), ()), False, (("k" * 50, None),), (), True)

    def test_history_and_told_order(self):
        reader = self.versions.begin(serial=True)
        reader.value_at("a")
        reader.entries("x", None)
        self.committed(("a", "3"))
        reader.put("z", "4")
        self.versions.commit(reader, False)
        self.committed(("z", "5"))
        notes = (("value", "a", "2"), ("entries", "x", None, ()))
        self.assertEqual(self.versions.history(), ((2, False, (), (("a", "3"),)), (2, True, notes, (("z", "4"),)),
                                                   (4, False, (), (("z", "5"),))))
        self.assertEqual(self.versions.told_order(), (4, 3, 5))


class EndedTest(SessionCase):
    def calls(self, session):
        return {"value_at": ("a",), "entries": (None, "b"), "put": ("a", "1"), "take": ("a",), "put_all": ((),),
                "guard": ("a", None), "commit": (), "drop": ()}

    def test_each_method(self):
        for end in ("commit", "drop"):
            for serial in (True, False):
                session = self.versions.begin(serial)
                session.put("q" + end, str(serial))
                getattr(session, end)()
                for name, members in self.calls(session).items():
                    self.unchanged((session,), Ended, getattr(session, name), *members)
                self.unchanged((session,), Ended, self.versions.commit, session)
                self.unchanged((session,), Ended, self.versions.commit, session, False)

    def test_errors_ahead_of_it_and_behind_it(self):
        session, ended = self.versions.begin(serial=True), self.versions.begin(serial=True)
        ended.drop()
        for one in (session, ended):
            for value in WRONG_TEXTS:
                for call in (one.value_at, one.take):
                    self.unchanged((one,), InvalidText, call, value)
                self.unchanged((one,), InvalidText, one.put, value, "x")
                self.unchanged((one,), InvalidText, one.put, "x", value)
                self.unchanged((one,), InvalidText, one.put, value, value)
                if value is not None:
                    for call in (one.entries, one.guard):
                        self.unchanged((one,), InvalidText, call, value, None)
                        self.unchanged((one,), InvalidText, call, None, value)
            for value in WRONG_CHANGES:
                self.unchanged((one,), InvalidChanges, one.put_all, value)
        for name, members in (("put", ("k" * 99, "")), ("take", ("k" * 99,)), ("put_all", ((("k" * 99, None),),))):
            self.unchanged((session,), TooLong, getattr(session, name), *members)
            self.unchanged((ended,), Ended, getattr(ended, name), *members)


class VacuumTest(SessionCase):
    def test_vacuum(self):
        session = self.versions.begin(at=1)
        other = self.versions.begin(at=2)
        self.assertIsNone(self.versions.vacuum(least=1))
        self.assertEqual((self.store.least, session.value_at("a")), (1, "1"))
        self.unchanged((session,), InvalidNumber, self.versions.vacuum, 2)
        session.drop()
        self.versions.vacuum(2)
        self.assertEqual((self.store.least, other.value_at("a")), (2, "2"))
        self.assertEqual(meaning_of(self.store.disk.image, 200), self.store.meaning())
        self.versions.vacuum(2)
        self.committed(("a", "3"))
        self.unchanged((other,), InvalidNumber, self.versions.vacuum, 3)
        other.commit()
        self.versions.vacuum(3)
        self.assertEqual(self.store.versions_of("a"), ((3, "3"),))

    def test_numbers(self):
        self.versions.vacuum(1)
        for _ in range(2):
            for least in WRONG_INTEGERS + (-1, 0, 3, 10 ** 70):
                self.unchanged((), InvalidNumber, self.versions.vacuum, least)
            self.versions.begin()


if __name__ == "__main__":
    unittest.main()
