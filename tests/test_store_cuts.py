"""Fact F: whatever is done and wherever the power is cut, a beginning of all records stands."""

from random import Random
import unittest

from heldpasts.disk import Disk
from heldpasts.errors import PowerCut, StoreFull
from heldpasts.meaning import meaning_of
from heldpasts.store import Store
from tests.helpers import Case
from tests.stores import changes_by_chance, choice_by_chance, fold, fresh_disk


class Told:
    """All records that were added, and how many of them must stand."""

    def __init__(self, records=()):
        self.records = list(records)
        self.safe = len(self.records)

    def meanings(self):
        """The meanings that a cut may leave, each with the records that it tells."""
        return {fold(self.records[:many]): self.records[:many] for many in range(self.safe, len(self.records) + 1)}


def deeds_by_chance(chance, many):
    """A list of deeds that say by themselves what they do, also to a store that a cut has left shorter."""
    deeds = []
    for _ in range(many):
        word = chance.choice(("add", "add", "add", "add", "mark", "sync", "forget", "checkpoint", "open"))
        if word == "add":
            deeds.append((word, changes_by_chance(chance, 4), changes_by_chance(chance, 2)))
        elif word == "mark":
            deeds.append((word, changes_by_chance(chance, 3)))
        else:
            deeds.append((word, chance.randrange(100)))
    return deeds


def done(store, told, deed):
    """Does a deed: the store that goes on. The record of a deed that a cut ends may stand, too."""
    word = deed[0]
    if word == "open":
        return Store(store.disk)
    if word == "add":
        told.records.append(("C", deed[1], deed[2]))
        store.add(deed[1], deed[2])
    elif word == "mark":
        told.records.append(("M", deed[1]))
        store.add((), deed[1], False)
    elif word == "forget":
        least = store.least + deed[1] % (store.number - store.least + 1)
        told.records.append(("W", least))
        store.forget(least)
    elif word == "sync":
        store.sync()
    else:
        store.checkpoint()
    if word in ("forget", "sync", "checkpoint"):
        told.safe = len(told.records)
    return store


def done_all(disk, told, deeds):
    """Does all deeds, or those up to the cut."""
    try:
        store = Store(disk)
        for deed in deeds:
            store = done(store, told, deed)
    except PowerCut:
        return False
    return True


class CutTest(Case):
    def look(self, disk, told, chance):
        """Of some images that a cut leaves each tells a right meaning; one of them, and its records."""
        meanings = told.meanings()
        choices = [choice_by_chance(chance, disk) for _ in range(4)]
        for choice in choices:
            image = disk.behind(choice)
            self.assertIn(meaning_of(image, disk.signs), meanings)
        opened = Disk(image, disk.signs, 0)
        store = Store(opened)
        self.assertEqual((store.meaning(), opened.pending, opened.out), (meaning_of(image, disk.signs), (), False))
        return image, meanings[meaning_of(image, disk.signs)]

    def test_cuts_at_each_step(self):
        for seed in range(14):
            deeds = deeds_by_chance(Random(seed), 16)
            steps, whole = 0, False
            while not whole:
                disk, told = fresh_disk(60, 3, 200, steps), Told()
                whole = done_all(disk, told, deeds)
                self.look(disk, told, Random(1000 * seed + steps))
                steps += 1
            self.assertEqual(Store(disk).meaning(), fold(told.records))

    def test_several_openings_one_behind_another(self):
        for seed in range(250):
            chance = Random(seed)
            disk, told = fresh_disk(70, 4, 200, chance.randrange(40)), Told()
            for _ in range(6):
                done_all(disk, told, deeds_by_chance(chance, chance.randrange(14)))
                image, records = self.look(disk, told, chance)
                disk = Disk(image, 200, chance.choice((0, 1, 2, 3, 5, 10, 20, 40, None)))
                told = Told(records)

    def test_cuts_amid_large_records(self):
        """Records of several blocks, and ones that make room first."""
        for seed in range(12):
            chance = Random(seed)
            deeds = [("add", tuple((f"k{at:02d}", "x" * 20) for at in range(chance.randrange(12))), ())
                     for _ in range(8)]
            steps, whole = 0, False
            while not whole:
                disk, told = fresh_disk(120, 4, 200, steps), Told()
                whole = done_all(disk, told, deeds)
                self.look(disk, told, Random(seed + 31 * steps))
                steps += 1

    def test_a_full_store_stays_as_it_is(self):
        for seed in range(40):
            chance = Random(seed)
            disk, told = fresh_disk(4, 3, 200, chance.randrange(60)), Told()
            try:
                store = Store(disk)
                for deed in deeds_by_chance(chance, 30):
                    before = list(told.records)
                    try:
                        store = done(store, told, deed)
                    except StoreFull:
                        told.records = before
            except PowerCut:
                pass
            self.look(disk, told, chance)


if __name__ == "__main__":
    unittest.main()
