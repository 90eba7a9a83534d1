from random import Random
import unittest

from heldpasts.disk import Disk
from heldpasts.errors import (InvalidChanges, InvalidNumber, InvalidText, LogFull, NoStore, PowerCut, StoreFull,
                              TooLong)
from heldpasts.meaning import meaning_of
from heldpasts.pages import fresh_image
from heldpasts.records import deed_text
from heldpasts.store import Store
from heldpasts.tree import entry_room
from heldpasts.tree_deeds import bulk
from heldpasts.tree_pages import nodes_in
from tests.helpers import WRONG_INTEGERS, WRONG_TEXTS, Case
from tests.stores import changes_by_chance, fold, fresh_disk, fresh_store, pasts_of

WRONG_CHANGES = (None, True, False, 0, "", "ab", [], {}, (("b", "x"), ("a", "x")), (("a", "x"), ("a", "y")), ("a",),
                 (("a", 1),), (("a", "\n"),), [("a", "x")], (["a", "x"],), ((None, "x"),))


def state_of(store):
    """All that can be seen of a store, and what lies on its disk."""
    disk = store.disk
    return (store.meaning(), store.number, store.least, store.room, store.marks(), disk.image, disk.pending,
            disk.steps, disk.out)


def store_with(*commits, least=0, **sizes):
    store = fresh_store(**sizes)
    for changes in commits:
        store.add(changes)
    if least:
        store.forget(least)
    return store


class StoreCase(Case):
    def unchanged(self, store, kind, call, *members, **names):
        """The call raises just this error and changes nothing."""
        before = state_of(store)
        error = self.refused(kind, call, *members, **names)
        self.assertEqual(state_of(store), before)
        return error


class ReadTest(StoreCase):
    def setUp(self):
        self.store = store_with((("a", "1"), ("b", "1")), (("a", None), ("c", "2")), (("b", "3"),), (("a", "4"),))

    def test_example(self):
        store = fresh_store(20, 4)
        self.assertEqual([store.add((("k", "1"),)), store.add((("k", None), ("m", "2")), (("w", "t"),)), store.sync(),
                          store.value_at("k", 1), store.entries(None, None, 2)], [1, 2, None, "1", [("m", "2")]])
        self.assertEqual(store.meaning(),
                         (0, 2, (("k", ((1, "1"), (2, None))), ("m", ((2, "2"),))), (("w", "t"),)))
        self.assertEqual([store.forget(2), store.checkpoint(), meaning_of(store.disk.image, 200)],
                         [None, None, (2, 2, (("m", ((2, "2"),)),), (("w", "t"),))])

    def test_a_fresh_store(self):
        disk = fresh_disk(20, 4)
        store = Store(disk=disk)
        self.assertEqual((store.number, store.least, store.room), (0, 0, 4))
        self.assertIs(store.disk, disk)
        self.assertEqual((store.marks(), store.meaning(), store.entries(None, None, 0)), ((), (0, 0, (), ()), []))
        self.assertEqual((store.value_at("a", 0), store.versions_of("a"), store.newest("a")), (None, (), 0))

    def test_each_past(self):
        self.assertEqual([self.store.value_at("a", number) for number in range(5)], [None, "1", None, None, "4"])
        self.assertEqual([self.store.value_at(key="b", number=number) for number in range(5)],
                         [None, "1", "1", "3", "3"])
        self.assertEqual(self.store.entries(None, None, 0), [])
        self.assertEqual(self.store.entries(None, None, 1), [("a", "1"), ("b", "1")])
        self.assertEqual(self.store.entries(low=None, high=None, number=4), [("a", "4"), ("b", "3"), ("c", "2")])
        self.assertEqual(self.store.entries("b", None, 3), [("b", "3"), ("c", "2")])
        self.assertEqual(self.store.entries("aa", "c", 3), [("b", "3")])
        self.assertEqual(self.store.entries("c", "a", 4), [])

    def test_versions(self):
        self.assertEqual(self.store.versions_of("a"), ((1, "1"), (2, None), (4, "4")))
        self.assertEqual(self.store.versions_of(key="x"), ())
        self.assertEqual([self.store.newest(key) for key in "abcx"], [4, 3, 2, 0])
        self.assertEqual(self.store.newest(key="a"), 4)

    def test_changed_behind(self):
        behind = [self.store.changed_behind(None, None, number) for number in range(5)]
        self.assertEqual(behind, [["a", "b", "c"], ["a", "b", "c"], ["a", "b"], ["a"], []])
        self.assertEqual(self.store.changed_behind(low="b", high="c", number=2), ["b"])
        self.assertEqual(self.store.changed_behind("b", None, 1), ["b", "c"])
        store = store_with((("a", "1"),), (("a", None),))
        self.assertEqual([store.changed_behind(None, None, number) for number in range(3)], [["a"], ["a"], []])

    def test_numbers_that_can_be_read(self):
        self.store.forget(2)
        for number in (2, 3, 4):
            self.assertIsNone(self.store.check_number(number))
            self.store.value_at("a", number)
            self.store.entries(None, None, number)
            self.store.changed_behind(None, None, number)
        for number in WRONG_INTEGERS + (-1, 0, 1, 5, 6, 10 ** 80):
            self.unchanged(self.store, InvalidNumber, self.store.check_number, number)
            self.unchanged(self.store, InvalidNumber, self.store.value_at, "a", number)
            self.unchanged(self.store, InvalidNumber, self.store.entries, None, "b", number)
            self.unchanged(self.store, InvalidNumber, self.store.changed_behind, "a", None, number)
            self.unchanged(self.store, InvalidNumber, self.store.forget, number)

    def test_texts(self):
        for value in WRONG_TEXTS:
            self.unchanged(self.store, InvalidText, self.store.value_at, value, 9)
            self.unchanged(self.store, InvalidText, self.store.versions_of, value)
            self.unchanged(self.store, InvalidText, self.store.newest, value)
            if value is not None:
                for call in (self.store.entries, self.store.changed_behind):
                    self.unchanged(self.store, InvalidText, call, value, None, 9)
                    self.unchanged(self.store, InvalidText, call, None, value, 9)

    def test_lists_are_new(self):
        first = self.store.entries(None, None, 4)
        first.clear()
        self.assertEqual(len(self.store.entries(None, None, 4)), 3)
        self.store.changed_behind(None, None, 0).clear()
        self.assertEqual(len(self.store.changed_behind(None, None, 0)), 3)


class AddTest(StoreCase):
    def test_commits_and_marks(self):
        store = fresh_store()
        self.assertEqual(store.add(changes=(), marks=(), commit=True), 1)
        self.assertEqual(store.add((), (("w", "t"), ("x", "")), False), 1)
        self.assertEqual(store.add((("a", "1"),), (("w", None),)), 2)
        # Changes beside marks alone are left aside.
        self.assertEqual(store.add((("a", "2"),), (("y", "u"),), commit=False), 2)
        self.assertEqual(store.meaning(), (0, 2, (("a", ((2, "1"),)),), (("x", ""), ("y", "u"))))
        self.assertEqual(store.marks(), (("x", ""), ("y", "u")))
        self.assertEqual(Store(store.disk).meaning(), store.meaning())
        self.assertEqual(store.number, 2)

    def test_nothing_is_synced(self):
        store = fresh_store()
        image = store.disk.image
        store.add((("a", "1"),))
        self.assertEqual((store.disk.image, len(store.disk.pending), store.room), (image, 1, 7))
        self.assertIsNone(store.sync())
        self.assertEqual(store.disk.pending, ())
        self.assertEqual(meaning_of(store.disk.image, 200), store.meaning())

    def test_wrong_changes(self):
        store = store_with((("a", "1"),))
        for value in WRONG_CHANGES:
            for commit in (True, False):
                self.unchanged(store, InvalidChanges, store.add, value, (), commit)
                self.unchanged(store, InvalidChanges, store.add, (), value, commit)
                # Ahead of what has no room.
                self.unchanged(store, InvalidChanges, store.add, (("k" * 999, ""),), value, commit)

    def test_room_of_an_entry(self):
        for signs in (100, 101, 104, 105, 200, 1000):
            room = entry_room(signs)
            store = fresh_store(log_blocks=6, signs=signs)
            # A version has `v`, the code's space, eight digits and a sign; a mark has `m` and the space.
            for key, size in (("", 0), ("abc", 3), ("a b", 4), ("! !", 6)):
                value = "x" * (room - 11 - size)
                self.assertIsNone(store.checkpoint())
                store.add(((key, value),))
                self.assertEqual(self.unchanged(store, TooLong, store.add, ((key, value + "x"),)).text, key)
                self.unchanged(store, TooLong, store.add, ((key, value + "x"),), (), False)
                text = "x" * (room - 2 - size)
                store.add((), ((key, text),))
                store.add((), ((key, text),), False)
                self.assertEqual(self.unchanged(store, TooLong, store.add, (), ((key, text + "x"),)).text, key)
                self.unchanged(store, TooLong, store.add, (), ((key, text + "x"),), False)
            goes, mark = "k" * (room - 11), "k" * (room - 2)
            store.checkpoint()
            store.add(((goes, None),), ((mark, None),))
            self.assertEqual(self.unchanged(store, TooLong, store.add, ((goes + "k", None),)).text, goes + "k")
            self.assertEqual(self.unchanged(store, TooLong, store.add, (), ((mark + "k", None),)).text, mark + "k")
            store.checkpoint()
            self.assertEqual(meaning_of(store.disk.image, signs), store.meaning())

    def test_the_first_that_has_no_room(self):
        store = fresh_store()
        long = "x" * 90
        changes = (("a", "1"), ("b", long), ("c", long))
        self.assertEqual(self.unchanged(store, TooLong, store.add, changes, (("a", long),)).text, "b")
        self.assertEqual(self.unchanged(store, TooLong, store.add, changes[:1], (("d", ""), ("e", long))).text, "e")
        self.assertEqual(self.unchanged(store, TooLong, store.add, changes, (), False).text, "b")

    def test_too_long_ahead_of_a_full_log(self):
        store = fresh_store(pages=1, log_blocks=1, signs=100)
        changes = tuple((f"k{at}", "x") for at in range(9))
        self.unchanged(store, TooLong, store.add, changes + (("z" * 30, "x"),))
        self.unchanged(store, InvalidChanges, store.add, changes, None)


class LogTest(StoreCase):
    def test_a_record_that_just_has_room(self):
        store = fresh_store(log_blocks=2)
        store.add((("a", "1"),))
        store.add((("a", "2"),))
        self.assertEqual((store.room, store.pages.head[0]), (0, 0))
        self.assertEqual(store.add((("a", "3"),)), 3)
        self.assertEqual((store.room, store.pages.head[:4]), (1, (1, 1, store.pages.head[2], 2)))
        self.assertEqual(store.versions_of("a"), ((1, "1"), (2, "2"), (3, "3")))

    def test_records_of_several_blocks(self):
        store = fresh_store(log_blocks=3)
        changes = tuple((f"k{at:02d}", "x" * 20) for at in range(10))
        self.assertEqual(len(deed_text("C", changes, ())), 325)
        store.add(changes)
        self.assertEqual(store.room, 1)
        store.add(changes[:5])
        self.assertEqual((store.room, store.pages.head[0]), (0, 0))
        store.add(changes)
        self.assertEqual((store.room, store.pages.head[0]), (1, 1))
        store.sync()
        self.assertEqual(meaning_of(store.disk.image, 200), store.meaning())

    def test_a_log_that_is_too_small(self):
        store = fresh_store(log_blocks=1)
        store.add((("a", "1"),))
        changes = tuple((f"k{at:02d}", "x" * 20) for at in range(10))
        before = store.meaning()
        self.refused(LogFull, store.add, changes, (("w", "t"),))
        # The checkpoint stands, and what was added ahead of it.
        self.assertEqual((store.meaning(), store.number, store.marks(), store.room), (before, 1, (), 1))
        self.assertEqual((meaning_of(store.disk.image, 200), store.disk.pending), (before, ()))
        self.assertEqual(store.pages.head[:2], (1, 1))
        self.refused(LogFull, store.add, changes)
        self.assertEqual(store.pages.head[:2], (2, 2))
        self.refused(LogFull, store.add, (), changes, False)
        self.assertEqual(store.add((("a", None),)), 2)

    def test_too_few_pages(self):
        store = fresh_store(pages=2, log_blocks=2)
        store.add(tuple((key, "1") for key in "abcde"))
        self.unchanged(store, StoreFull, store.checkpoint)
        store.add((("a", "2"),))
        self.unchanged(store, StoreFull, store.add, (("a", "3"),))
        self.unchanged(store, StoreFull, store.add, (), (("w", "t"),), False)
        self.unchanged(store, StoreFull, store.forget, 2)
        self.unchanged(store, StoreFull, store.checkpoint)
        store.sync()
        self.assertEqual(meaning_of(store.disk.image, 200), store.meaning())

    def test_pages_that_the_elder_tree_needs(self):
        store = fresh_store(pages=1, log_blocks=2)
        store.add((("a", "1"),))
        store.checkpoint()
        store.add((("a", "2"),))
        self.unchanged(store, StoreFull, store.checkpoint)
        store.add((("a", "3"),))
        self.unchanged(store, StoreFull, store.add, (("a", "4"),))

    def test_enough_pages(self):
        """As many pages as entries of the elder tree and of the newer one together are enough."""
        for elder, newer in ((0, 1), (0, 2), (1, 1), (2, 3), (4, 5), (5, 6), (8, 20), (16, 17), (17, 33), (30, 40)):
            store = fresh_store(pages=elder + newer, log_blocks=30)
            if elder:
                store.add(tuple((f"k{at:02d}", "1") for at in range(elder)))
                store.checkpoint()
            for at in range(elder, newer):
                store.add(((f"k{at * 7 % 100:03d}", "1"),))
            store.checkpoint()
            self.assertEqual(meaning_of(store.disk.image, 200), store.meaning())

    def test_trees_that_share_pages(self):
        """A tree too large to be made anew beside itself goes on by single deeds."""
        store = fresh_store(pages=20, log_blocks=12)
        for at in range(36):
            store.add(((f"k{at:02d}", "1"),))
            store.checkpoint()
            self.assertEqual(meaning_of(store.disk.image, 200), store.meaning())
        # No tree of these made anew would fit beside the one that stands.
        self.assertGreater(len(store.pages.kept) + nodes_in(bulk(store.pasts.tree_entries())), 20)
        store.add((("k07", None),))
        store.forget(store.number)
        store.checkpoint()
        self.assertEqual(meaning_of(store.disk.image, 200), store.meaning())

    def test_checkpoint_steps(self):
        store = fresh_store(pages=150, log_blocks=40, signs=1000)
        store.add(tuple((f"k{at:03d}", "1") for at in range(300)))
        store.disk.steps = 300
        store.checkpoint()
        self.assertFalse(store.disk.out)

    def test_checkpoint_with_nothing_newer(self):
        store = fresh_store()
        for turn in range(1, 4):
            self.assertIsNone(store.checkpoint())
            self.assertEqual(store.pages.head, (turn, turn, 0, 0, 0, 30))
        store.add((("a", "1"),))
        for turn in range(4, 7):
            store.checkpoint()
            self.assertEqual((store.pages.head[:2], store.room), ((turn, turn), 8))
            self.assertEqual(meaning_of(store.disk.image, 200), (0, 1, (("a", ((1, "1"),)),), ()))

    def test_checkpoint_takes_out_what_no_past_sees(self):
        store = store_with((("a", "1"), ("b", "1")), (("a", "2"), ("b", None)), (("c", "3"),), least=2)
        store.checkpoint()
        image = store.disk.image
        self.assertEqual(Store(Disk(image, 200)).pasts.tree_entries(),
                         (("va 00000002", "+2"), ("vc 00000003", "+3")))
        self.assertIn("L011002va 00000002+2011002vc 00000003+3", image)


class ForgetTest(StoreCase):
    def test_forget(self):
        store = store_with((("a", "1"),), (("a", None),), (("a", "3"), ("b", "3")), (("b", None),))
        self.assertIsNone(store.forget(least=0))
        self.assertEqual((store.least, store.room), (0, 3))
        self.assertEqual(store.versions_of("a"), ((1, "1"), (2, None), (3, "3")))
        for least, versions in ((1, ((1, "1"), (2, None), (3, "3"))), (2, ((3, "3"),)), (2, ((3, "3"),))):
            store.forget(least)
            self.assertEqual((store.least, store.versions_of("a")), (least, versions))
            self.assertEqual((store.disk.pending, meaning_of(store.disk.image, 200)), ((), store.meaning()))
        store.forget(4)
        self.assertEqual(store.meaning(), (4, 4, (("a", ((3, "3"),)),), ()))
        self.assertEqual((store.newest("b"), store.versions_of("b"), store.entries(None, None, 4)),
                         (0, (), [("a", "3")]))
        self.assertEqual(store.changed_behind(None, None, 4), [])

    def test_forget_on_a_full_log(self):
        store = store_with((("a", "1"),), (("a", "2"),), log_blocks=2)
        store.forget(2)
        # The checkpoint went by the elder least.
        self.assertEqual((store.pages.head[3:5], store.room, store.least), ((2, 0), 1, 2))
        self.assertEqual(meaning_of(store.disk.image, 200), (2, 2, (("a", ((2, "2"),)),), ()))
        store.checkpoint()
        self.assertEqual(store.pages.head[3:5], (2, 2))


class OpeningTest(StoreCase):
    def test_an_opening_writes_nothing(self):
        store = store_with((("a", "1"),), (("b", "2"),), signs=100)
        store.sync()
        store.add((("c", "3"),))
        disk = store.disk
        before = (disk.image, disk.pending)
        later = Store(disk)
        self.assertEqual((disk.image, disk.pending), before)
        self.assertEqual((later.meaning(), later.room), (store.meaning(), store.room))
        powerless = Disk(disk.image, 100, 0)
        self.assertEqual(Store(powerless).number, 2)
        self.assertEqual((powerless.steps, powerless.out, powerless.pending), (0, False, ()))

    def test_on_blocks_that_wait(self):
        store = store_with((("a", "1"),))
        later = Store(store.disk)
        later.add((("a", "2"),))
        last = Store(store.disk)
        last.add((("b", None),), (("w", ""),))
        last.sync()
        self.assertEqual(meaning_of(store.disk.image, 200), last.meaning())
        self.assertEqual(last.meaning(), (0, 3, (("a", ((1, "1"), (2, "2"))), ("b", ((3, None),))), (("w", ""),)))

    def test_no_store(self):
        self.refused(NoStore, Store, Disk(("",) * 5, 100))
        self.refused(NoStore, Store, Disk(("H" + "0" * 36,) + ("",) * 5, 100))

    def test_power(self):
        disk = Disk(fresh_image(5, 5, 100), 100, 0)
        store = Store(disk)
        self.refused(PowerCut, store.add, (("a", "1"),))
        self.assertEqual((store.number, store.meaning(), store.room), (0, (0, 0, (), ()), 5))
        self.refused(PowerCut, Store, disk)
        store = Store(Disk(fresh_image(5, 5, 100), 100, 1))
        store.add((("a", "1"),))
        self.refused(PowerCut, store.sync)
        store = Store(Disk(fresh_image(5, 5, 100), 100, 2))
        store.add((("a", "1"),))
        self.refused(PowerCut, store.forget, 1)
        self.assertEqual(store.least, 0)


class PlainTest(StoreCase):
    def test_against_a_list_of_all_pasts(self):
        for seed in range(80):
            chance = Random(seed)
            store, records = fresh_store(pages=120, log_blocks=5), []
            for _ in range(20):
                deed = chance.randrange(10)
                if deed == 0:
                    records.append(("W", chance.randrange(store.least, store.number + 1)))
                    store.forget(records[-1][1])
                elif deed == 1:
                    store.checkpoint()
                elif deed == 2:
                    store = Store(store.disk)
                else:
                    records.append(("C", changes_by_chance(chance, 5), ()))
                    store.add(records[-1][1])
                self.look(store, records)

    def look(self, store, records):
        pasts = pasts_of(records)
        least, number, keys, _ = fold(records)
        self.assertEqual((store.number, store.least), (len(pasts) - 1, least))
        for past in range(least, number + 1):
            self.assertEqual(store.entries(None, None, past), sorted(pasts[past].items()))
            for low, high in ((None, "c"), ("b", None), ("a", "ab"), ("aa", "g")):
                inside = [entry for entry in sorted(pasts[past].items())
                          if (low is None or low <= entry[0]) and (high is None or entry[0] < high)]
                self.assertEqual(store.entries(low, high, past), inside)
            changed = [key for key, versions in keys if versions[-1][0] > past]
            self.assertEqual(store.changed_behind(None, None, past), changed)
            for key in ("a", "bb", "", "!"):
                self.assertEqual(store.value_at(key, past), pasts[past].get(key))
        for key in ("a", "bb", "", "!"):
            versions = dict(keys).get(key, ())
            self.assertEqual((store.versions_of(key), store.newest(key)),
                             (versions, versions[-1][0] if versions else 0))


if __name__ == "__main__":
    unittest.main()
