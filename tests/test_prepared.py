from itertools import permutations
import unittest

from heldpasts.disk import Disk
from heldpasts.errors import (Conflict, Ended, Held, InvalidName, LogFull, NoName, PowerCut, Refused, StoreFull, Taken,
                              TooLong)
from heldpasts.holds import hold_marks
from heldpasts.meaning import meaning_of
from heldpasts.prepared import Keeper
from heldpasts.sessions import Versions
from heldpasts.store import Store
from tests.helpers import Case
from tests.stores import fresh_disk, fresh_store
from tests.test_sessions import state_of_versions

WRONG_NAMES = (None, True, False, 0, 1, "", "A", "a1", "a b", "abcdefghi", "\u00e9", (), ("a",), [], ["a"], {})


class KeeperCase(Case):
    def setUp(self):
        self.fresh(fresh_store())

    def fresh(self, store):
        self.store = store
        self.versions = Versions(store)
        self.keeper = Keeper(self.versions)

    def session(self, *changes, guards=(), at=None, serial=False):
        session = self.versions.begin(serial, at)
        session.put_all(changes)
        for low, high in guards:
            session.guard(low, high)
        return session

    def prepared(self, name, *changes, guards=()):
        self.keeper.prepare(self.session(*changes, guards=guards), name)

    def unchanged(self, sessions, kind, call, *members):
        """The call raises just this error and changes nothing."""
        before = state_of_versions(self.versions, *sessions), self.keeper.names()
        error = self.refused(kind, call, *members)
        self.assertEqual((state_of_versions(self.versions, *sessions), self.keeper.names()), before)
        return error


class PrepareTest(KeeperCase):
    def test_prepare(self):
        self.assertEqual((self.keeper.names(), self.versions.holds), ((), {}))
        session = self.session(("b", "1"), ("c", None), guards=(("d", "e"), (None, "a")))
        self.assertIsNone(self.keeper.prepare(session=session, name="one"))
        hold = ((("b", "1"), ("c", None)), (("d", "e"), (None, "a")))
        self.assertEqual((session.ended, self.versions.snapshots()), (True, []))
        self.assertEqual((self.keeper.names(), self.keeper.told("one"), self.versions.holds),
                         (("one",), hold, {"one": hold}))
        # No commit, and the marks stand.
        self.assertEqual((self.versions.number, self.versions.history(), self.store.entries(None, None, 0)), (0, (), []))
        self.assertEqual(self.store.marks(), hold_marks("one", hold, 200))
        self.assertEqual((self.store.disk.pending, meaning_of(self.store.disk.image, 200)), ((), self.store.meaning()))
        self.prepared("a", ("z", "1"))
        self.assertEqual(self.keeper.names(), ("a", "one"))
        self.assertEqual(self.keeper.told(name="a"), ((("z", "1"),), ()))
        # An opening reads all of it again.
        again = Keeper(versions=Versions(Store(Disk(self.store.disk.image, 200))))
        self.assertEqual((again.names(), again.told("one")), (("a", "one"), hold))

    def test_large_holds_in_several_marks(self):
        self.fresh(fresh_store(60, 60, 100))
        changes = tuple((f"k{at:02d}", "x" * (at % 5) if at % 3 else None) for at in range(20))
        self.prepared("abcdefgh", *changes, guards=(("x", "y" * 50), (None, None)))
        hold = (changes, (("x", "y" * 50), (None, None)))
        self.assertGreater(len(self.store.marks()), 60)
        self.assertEqual(Keeper(Versions(Store(Disk(self.store.disk.image, 100)))).told("abcdefgh"), hold)
        self.keeper.settle("abcdefgh")
        self.assertEqual(self.store.marks(), ())

    def test_names(self):
        session = self.session(("a", "1"))
        ended = self.session(("b", "1"))
        ended.drop()
        for name in WRONG_NAMES:
            self.unchanged((session,), InvalidName, self.keeper.prepare, session, name)
            self.unchanged((ended,), InvalidName, self.keeper.prepare, ended, name)
            for call in (self.keeper.told, self.keeper.settle, self.keeper.let_go):
                self.unchanged((session,), InvalidName, call, name)
        self.prepared("one", ("z", "1"))
        for call in (self.keeper.told, self.keeper.settle, self.keeper.let_go):
            self.assertEqual(self.unchanged((session,), NoName, call, "two").name, "two")

    def test_errors_in_their_sequence(self):
        self.session(("a", "0")).commit()
        elder = self.versions.begin()
        self.prepared("one", ("h", "1"), guards=(("m", "n"),))
        self.session(("a", "1")).commit()
        # A session with each fault but the first ones, in the sequence in which they are told.
        elder.put("h", "2")
        elder.put("a", "2")
        self.unchanged((elder,), Taken, self.keeper.prepare, elder, "one")
        self.assertEqual(self.unchanged((elder,), Conflict, self.keeper.prepare, elder, "two").lot, ("a",))
        serial = self.session(("a", "2"), ("h", "2"), serial=True)
        self.session(("a", "3")).commit()
        self.assertEqual(self.unchanged((serial,), Taken, self.keeper.prepare, serial, "one").word, "one")
        self.unchanged((serial,), Refused, self.keeper.prepare, serial, "two")
        empty = self.versions.begin(at=1)
        empty.guard("a", None)
        self.unchanged((empty,), Taken, self.keeper.prepare, empty, "one")
        self.unchanged((empty,), Refused, self.keeper.prepare, empty, "two")
        for session in (elder, serial, empty):
            session.drop()
            self.unchanged((session,), Ended, self.keeper.prepare, session, "one")
            self.unchanged((session,), Ended, self.keeper.prepare, session, "two")
        newer = self.session(("h", "2"), ("m", "1"))
        self.assertEqual(self.unchanged((newer,), Held, self.keeper.prepare, newer, "two").lot, ("one",))

    def test_conflict(self):
        self.session(("a", "0"), ("g", "0")).commit()
        session = self.session(("b", "1"), ("x", "1"), guards=(("f", "h"), (None, "a")))
        self.session(("b", "2"), ("g", None), ("i", "2")).commit()
        self.assertEqual(self.unchanged((session,), Conflict, self.keeper.prepare, session, "one").lot, ("b", "g"))
        self.keeper.prepare(self.session(("b", "1"), guards=(("f", "h"),)), "one")

    def test_held(self):
        self.prepared("one", ("b", "1"), guards=(("m", "n"),))
        self.prepared("two", ("d", None))
        self.prepared("zoo", ("q", "1"), guards=(("r", None),))
        # A key that another one changes, or guards; a guard of a key that another one changes.
        for changes, guards, lot in (((("b", None),), (), ("one",)), ((("mm", "1"),), (), ("one",)),
                                     ((("a", "1"),), (("b", "c"),), ("one",)), ((("a", "1"),), (("a", None),),
                                                                              ("one", "two", "zoo")),
                                     ((("d", "1"), ("s", "1")), (("b", "bb"),), ("one", "two", "zoo")),
                                     ((("r", "1"),), ((None, "b"), ("d", "d ")), ("two", "zoo"))):
            session = self.session(*changes, guards=guards)
            self.assertEqual(self.unchanged((session,), Held, self.keeper.prepare, session, "new").lot, lot)
        # Two that guard one stretch do not meet.
        self.prepared("new", ("a", "1"), guards=(("m", "n"), ("c", "d"), ("e", "q"), ("n", "b")))

    def test_commits_of_others(self):
        self.prepared("one", ("b", "1"), guards=(("m", "n"),))
        for key in ("b", "m", "mm"):
            session = self.session((key, "2"))
            self.assertEqual(self.unchanged((session,), Held, session.commit).lot, ("one",))
        # A guard of its own does not hold a commit back.
        self.assertEqual(self.session(("n", "2"), guards=(("b", "c"),)).commit(), 1)
        self.keeper.let_go("one")
        self.assertEqual(self.session(("b", "2"), ("mm", "2")).commit(), 2)

    def test_what_add_raises(self):
        # The log is full, and the tree has no room for what lies in it.
        self.fresh(fresh_store(pages=1, log_blocks=3))
        for at in range(3):
            self.session((f"k{at}", "x"), (f"l{at}", "x")).commit()
        session = self.session(("a", "1"))
        self.unchanged((session,), StoreFull, self.keeper.prepare, session, "one")
        # A log that is too small for the marks.
        self.fresh(fresh_store(pages=30, log_blocks=1, signs=200))
        session = self.session(*((f"k{at}", "x" * 12) for at in range(9)))
        meaning = self.store.meaning()
        self.refused(LogFull, self.keeper.prepare, session, "one")
        self.assertEqual((self.store.meaning(), session.ended, self.keeper.names()), (meaning, False, ()))
        # One that is too long is refused when it is put.
        self.unchanged((session,), TooLong, session.put, "k" * 99, "")


class SettleTest(KeeperCase):
    def test_settle(self):
        self.session(("a", "0"), ("c", "0")).commit()
        self.prepared("one", ("b", "1"), ("c", None), guards=(("d", "e"),))
        self.prepared("two", ("x", "1"))
        self.session(("a", "1")).commit()
        self.assertEqual(self.keeper.settle(name="one"), 3)
        self.assertEqual((self.versions.number, self.store.entries(None, None, 3)), (3, [("a", "1"), ("b", "1")]))
        self.assertEqual((self.keeper.names(), self.store.marks()),
                         (("two",), hold_marks("two", ((("x", "1"),), ()), 200)))
        self.assertEqual((self.store.disk.pending, meaning_of(self.store.disk.image, 200)), ((), self.store.meaning()))
        self.assertEqual(self.versions.history()[2], (2, False, (), (("b", "1"), ("c", None))))
        self.assertEqual(self.versions.told_order(), (1, 2, 3))
        self.assertEqual(self.versions.nodes[3], (3, 2, (), ("b", "c")))
        self.unchanged((), NoName, self.keeper.settle, "one")
        self.assertEqual(self.session(("b", "9"), ("d", "9")).commit(), 4)

    def test_let_go(self):
        self.prepared("one", ("b", "1"))
        self.prepared("two", ("c", "1"))
        self.assertIsNone(self.keeper.let_go(name="one"))
        self.assertEqual((self.versions.number, self.versions.history(), self.keeper.names()), (0, (), ("two",)))
        self.assertEqual(meaning_of(self.store.disk.image, 200), (0, 0, (), hold_marks("two", ((("c", "1"),), ()), 200)))
        self.unchanged((), NoName, self.keeper.let_go, "one")
        self.prepared("one", ("b", "2"))

    def test_conflicts_with_a_settled_one(self):
        self.prepared("one", ("b", "1"))
        session = self.session(("b", "2"))
        self.unchanged((session,), Held, session.commit)
        self.keeper.settle("one")
        self.assertEqual(self.unchanged((session,), Conflict, session.commit).lot, ("b",))

    def test_serial_sessions_beside_it(self):
        one, other = self.versions.begin(True), self.versions.begin(True)
        one.value_at("b")
        one.put("x", "1")
        other.value_at("x")
        other.put("y", "1")
        self.prepared("p", ("b", "1"))
        self.assertEqual([one.commit(), self.keeper.settle("p"), other.commit()], [1, 2, 3])
        # Number 3 missed 1, and 1 missed 2.
        self.assertEqual(self.versions.told_order(), (3, 1, 2))

    def test_never_a_full_log(self):
        """Each log in which a hold had room has room for what ends it, behind a checkpoint."""
        for signs in (100, 137, 200):
            for many in range(1, 30):
                for log_blocks in (1, 2, 3, 4, 5, 6, 7, 9):
                    self.fresh(fresh_store(140, log_blocks, signs))
                    session = self.session(*((f"{at:02d}", "x" * (at % 3) if at % 4 else None) for at in range(many)))
                    try:
                        self.keeper.prepare(session, "abc")
                    except LogFull:
                        continue
                    # Whatever stands in the log meanwhile.
                    for _ in range(many % (log_blocks + 1)):
                        self.session(("z", "1")).commit()
                    if many % 2:
                        number = self.versions.number
                        self.assertEqual(self.keeper.settle("abc"), number + 1)
                    else:
                        self.keeper.let_go("abc")
                    self.assertEqual(meaning_of(self.store.disk.image, signs), self.store.meaning())
                    self.assertEqual(self.store.marks(), ())

    def test_store_full(self):
        for word in ("settle", "let_go"):
            self.fresh(fresh_store(pages=1, log_blocks=4))
            self.prepared("one", ("a", "1"), ("b", "1"))
            while self.store.room:
                self.session((f"k{self.store.room}", "1"), (f"l{self.store.room}", "1")).commit()
            error = self.unchanged((), StoreFull, getattr(self.keeper, word), "one")
            self.assertIs(type(error), StoreFull)
            self.assertEqual(self.keeper.told("one"), ((("a", "1"), ("b", "1")), ()))

    def test_a_checkpoint_on_the_way(self):
        self.fresh(fresh_store(pages=30, log_blocks=3))
        self.prepared("one", ("a", "1"))
        for _ in range(2):
            self.session(("k", "1")).commit()
        self.assertEqual(self.store.room, 0)
        self.assertEqual(self.keeper.settle("one"), 3)
        self.assertEqual(self.store.room, 2)
        self.assertEqual(Keeper(Versions(Store(Disk(self.store.disk.image, 200)))).names(), ())


class CutTest(Case):
    """Fact K: what stands behind a cut at each step of a deed, all names and holds read from the marks."""

    def play(self, disk, told):
        """Some deeds; told gets the map and the names behind each of them."""
        versions = Versions(Store(disk))
        keeper = Keeper(versions)
        said = [({}, {})]
        told.append(said[0])
        for word, name, changes in (("prepare", "one", (("a", "1"), ("b", "2"))), ("commit", "", (("c", "x"),)),
                                    ("prepare", "two", (("d", "3"), ("c", None))[::-1]), ("settle", "one", ()),
                                    ("commit", "", (("a", "y"),)), ("let_go", "two", ()),
                                    ("prepare", "one", (("a", None),)), ("settle", "one", ())):
            past, names = dict(told[-1][0]), dict(told[-1][1])
            if word == "prepare":
                names[name] = changes
            elif name:
                own = names.pop(name)
                changes = own if word == "settle" else ()
            if word != "prepare":
                past.update(changes)
                past = {key: value for key, value in past.items() if value is not None}
            told.append((past, names))
            session = versions.begin()
            session.put_all(changes if word in ("prepare", "commit") else ())
            if word == "commit":
                session.commit()
            elif word == "prepare":
                keeper.prepare(session, name)
            else:
                session.drop()
                getattr(keeper, word)(name)

    def test_each_step(self):
        for log_blocks, pages in ((3, 30), (12, 30), (2, 40)):
            steps, whole = 0, False
            while not whole:
                disk, told = fresh_disk(pages, log_blocks, 200, steps), []
                try:
                    self.play(disk, told)
                    whole = True
                except PowerCut:
                    pass
                # The deed under way is done whole or not at all.
                offers = told[-2:] if not whole else told[-1:]
                for image in disk.images():
                    store = Store(Disk(image, 200))
                    keeper = Keeper(Versions(store))
                    found = (dict(store.entries(None, None, store.number)),
                             {name: keeper.told(name)[0] for name in keeper.names()})
                    self.assertIn(found, offers)
                steps += 1
            self.assertGreaterEqual(steps, 16)


class SequenceTest(KeeperCase):
    def test_in_any_sequence(self):
        """Fact K2, for all sequences of four that stand together."""
        holds = {"a": ((("a", "1"), ("b", None)), (("x", "y"),)), "b": ((("c", "1"),), (("x", None),)),
                 "c": ((("d", "2"), ("e", "2")), ()), "d": ((("b ", "3"),), (("f", "g"),))}
        maps = set()
        for names in permutations(holds):
            self.fresh(fresh_store())
            self.session(("b", "0"), ("d", "0")).commit()
            for name, (changes, guards) in sorted(holds.items()):
                self.prepared(name, *changes, guards=guards)
            for at, name in enumerate(names):
                if at == 2:
                    self.session(("w", "5")).commit()
                self.keeper.settle(name)
            maps.add(tuple(self.store.entries(None, None, self.store.number)))
        self.assertEqual(len(maps), 1)


if __name__ == "__main__":
    unittest.main()
