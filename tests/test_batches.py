from random import Random
import unittest

from heldpasts.batches import Batch, standing
from heldpasts.disk import Disk
from heldpasts.errors import Conflict, Ended, InvalidCount, PowerCut, StoreFull
from heldpasts.meaning import meaning_of
from heldpasts.prepared import Keeper
from heldpasts.sessions import Versions
from heldpasts.store import Store
from tests.helpers import WRONG_INTEGERS, Case
from tests.stores import changes_by_chance, choice_by_chance, fresh_disk, fresh_store


class BatchCase(Case):
    def setUp(self):
        self.versions = Versions(fresh_store(pages=60, log_blocks=12))
        self.store = self.versions.store

    def session(self, key=None, serial=False):
        session = self.versions.begin(serial)
        if key is not None:
            session.put(key, "x")
        return session

    def state(self, batch):
        return (batch.waiting(), batch.done(), standing(self.store))


class StandingTest(BatchCase):
    def test_commits_with_and_without_a_sync(self):
        self.assertEqual(standing(store=self.store), 0)
        told = []
        for synced in (False, False, True, False, True):
            self.versions.commit(self.session("k"), synced)
            told.append(standing(self.store))
        self.assertEqual(told, [0, 0, 3, 3, 5])
        self.versions.commit(self.session("k"), False)
        self.assertEqual((standing(self.store), self.store.number), (5, 6))
        self.store.sync()
        self.assertEqual(standing(self.store), 6)

    def test_other_deeds_that_sync(self):
        keeper = Keeper(self.versions)
        deeds = (self.store.checkpoint, lambda: self.store.forget(1), lambda: keeper.prepare(self.session("p"), "one"),
                 lambda: keeper.let_go("one"), lambda: keeper.prepare(self.session("p"), "one"),
                 lambda: keeper.settle("one"))
        for at, deed in enumerate(deeds):
            self.versions.commit(self.session("k"), False)
            self.assertEqual(standing(self.store), at)
            deed()
            self.assertEqual(standing(self.store), self.store.number)
        # Marks alone do not, if they are not synced.
        self.versions.commit(self.session("k"), False)
        self.store.add((), (("a", "b"),), False)
        self.assertEqual(standing(self.store), 7)

    def test_a_checkpoint_that_makes_room(self):
        self.versions = Versions(fresh_store(pages=20, log_blocks=2))
        self.store = self.versions.store
        told = []
        for _ in range(5):
            self.versions.commit(self.session("k"), False)
            told.append(standing(self.store))
        self.assertEqual(told, [0, 0, 2, 2, 4])

    def test_an_opening_on_waiting_blocks(self):
        self.versions.commit(self.session("k"), False)
        again = Store(self.store.disk)
        self.assertEqual((again.number, standing(again)), (1, 0))
        again.sync()
        self.assertEqual(standing(again), 1)


class BatchTest(BatchCase):
    def test_without_most(self):
        batch = Batch(versions=self.versions)
        self.assertEqual(self.state(batch), ((), (), 0))
        self.assertEqual([batch.commit(session=self.session(key)) for key in "abc"], [1, 2, 3])
        self.assertEqual(self.state(batch), ((1, 2, 3), (), 0))
        # A session without changes read what is not done yet; one that read the eldest past is done at once.
        self.assertEqual([batch.commit(self.session()), batch.commit(self.versions.begin(at=0))], [3, 0])
        self.assertEqual(self.state(batch), ((1, 2, 3), (0,), 0))
        self.assertEqual(batch.sync(), (1, 2, 3))
        self.assertEqual(self.state(batch), ((), (0, 1, 2, 3), 3))
        self.assertEqual(batch.sync(), ())
        self.assertEqual(meaning_of(self.store.disk.image, 200), self.store.meaning())

    def test_most(self):
        for most, told in ((1, [0, 1, 2, 3, 4, 5, 6]), (2, [0, 0, 2, 2, 4, 4, 6]), (3, [0, 0, 0, 3, 3, 3, 6]),
                           (7, [0] * 7), (10 ** 89, [0] * 7)):
            self.setUp()
            batch = Batch(self.versions, most)
            found = [standing(self.store)]
            for key in "abcdef":
                batch.commit(self.session(key))
                found.append(standing(self.store))
            self.assertEqual(found, told, most)

    def test_unlike_numbers_count(self):
        batch = Batch(self.versions, most=2)
        batch.commit(self.session("a"))
        for _ in range(3):
            self.assertEqual(batch.commit(self.session()), 1)
            self.assertEqual(self.state(batch), ((1,), (), 0))
        # A snapshot alone is a number that waits, too.
        self.setUp()
        batch = Batch(self.versions, most=2)
        self.versions.commit(self.session("a"), False)
        batch.commit(self.session())
        self.assertEqual(self.state(batch), ((1,), (), 0))
        self.versions.commit(self.session("b"), False)
        batch.commit(self.session())
        self.assertEqual(self.state(batch), ((), (1, 2), 2))

    def test_only_its_own_numbers(self):
        one, other = Batch(self.versions), Batch(self.versions, 5)
        one.commit(self.session("a"))
        other.commit(self.session("b"))
        self.versions.commit(self.session("c"), False)
        one.commit(self.session("d"))
        self.assertEqual((self.state(one), self.state(other)), (((1, 4), (), 0), ((2,), (), 0)))
        self.assertEqual(other.sync(), (2,))
        self.assertEqual((self.state(one), self.state(other)), (((), (1, 4), 4), ((), (2,), 4)))

    def test_others_that_sync(self):
        batch = Batch(self.versions)
        batch.commit(self.session("a"))
        self.session("b").commit()
        self.assertEqual(self.state(batch), ((), (1,), 2))
        batch.commit(self.session("c"))
        self.store.checkpoint()
        self.assertEqual(self.state(batch), ((), (1, 3), 3))

    def test_serial_sessions(self):
        batch = Batch(self.versions)
        self.assertEqual([batch.commit(self.session(serial=True)), batch.commit(self.session("a", True))], [1, 2])
        self.assertEqual(self.state(batch), ((1, 2), (), 0))

    def test_errors(self):
        for most in WRONG_INTEGERS[1:] + (0, -1, -10 ** 80):
            self.refused(InvalidCount, Batch, self.versions, most)
        Batch(self.versions, 1)
        batch = Batch(self.versions, 1)
        session, elder = self.session("a"), self.session("a")
        batch.commit(session)
        before = self.state(batch)
        self.refused(Ended, batch.commit, session)
        self.assertEqual(self.refused(Conflict, batch.commit, elder).lot, ("a",))
        self.assertEqual((self.state(batch), elder.ended, self.store.number), (before, False, 1))

    def test_a_store_that_is_full(self):
        self.versions = Versions(fresh_store(pages=1, log_blocks=1))
        self.store = self.versions.store
        batch = Batch(self.versions)
        large = self.versions.begin()
        large.put_all(tuple((key, "x") for key in "abcde"))
        self.assertEqual(batch.commit(large), 1)
        session = self.session("f")
        self.refused(StoreFull, batch.commit, session)
        self.assertEqual((self.state(batch), session.ended), (((1,), (), 0), False))


class FactTest(Case):
    """Fact L: standing is the least number of the images that a cut can leave, and it never falls."""

    def look(self, disk, chance, told):
        newest = meaning_of(disk.image, 200)[1]
        self.assertGreaterEqual(newest, told["standing"])
        told["standing"] = newest
        numbers = [meaning_of(disk.behind(choice_by_chance(chance, disk)), 200)[1] for _ in range(2)]
        numbers.append(meaning_of(disk.behind((0,) * len(disk.image)), 200)[1])
        self.assertEqual(min(numbers), newest)

    def test_at_each_moment(self):
        whole = 0
        for seed in range(150):
            chance = Random(seed)
            disk, told, done = fresh_disk(60, 3, 200, chance.randrange(40)), {"standing": 0}, set()
            for _ in range(4):
                try:
                    whole += self.play(disk, chance, told, done)
                except PowerCut:
                    pass
                image = disk.behind(choice_by_chance(chance, disk))
                number = meaning_of(image, 200)[1]
                self.assertGreaterEqual(number, max(done | {told["standing"]}))
                disk = Disk(image, 200, chance.choice((3, 10, 30, None)))
        self.assertGreater(whole, 50)

    def play(self, disk, chance, told, done):
        versions = Versions(Store(disk))
        batch = Batch(versions, chance.choice((None, 1, 2, 3)))
        for _ in range(chance.randrange(12)):
            word = chance.randrange(8)
            if word == 0:
                versions.store.checkpoint()
            elif word == 1:
                batch.sync()
            else:
                session = versions.begin(chance.randrange(3) == 0)
                session.put_all(changes_by_chance(chance, 3))
                number = batch.commit(session)
                self.assertIn(number, batch.waiting() + batch.done())
                # Whoever read a waiting commit waits, too.
                self.assertTrue(number > standing(versions.store) or number in batch.done())
            done |= set(batch.done())
            self.assertFalse(done & set(batch.waiting()))
            self.look(disk, chance, told)
        return 1

    def test_all_images(self):
        for seed in range(40):
            chance = Random(seed)
            versions = Versions(fresh_store(20, 8))
            for _ in range(6):
                session = versions.begin()
                session.put_all(changes_by_chance(chance, 8))
                versions.commit(session, chance.randrange(4) == 0)
                numbers = [meaning_of(image, 200)[1] for image in versions.store.disk.images()]
                self.assertEqual(min(numbers), standing(versions.store))
                self.assertEqual(max(numbers), versions.number)


if __name__ == "__main__":
    unittest.main()
