from random import Random
import unittest

from heldpasts.disk import Disk
from heldpasts.errors import InvalidImage, InvalidSigns, NoStore, StoreError
from heldpasts.log import piece_text
from heldpasts.meaning import meaning_of
from heldpasts.pages import fresh_image, head_text
from heldpasts.records import deed_text, window_text
from heldpasts.store import Store
from heldpasts.tree import node_text
from tests.helpers import WRONG_INTEGERS, Case
from tests.stores import changes_by_chance, fold, fresh_disk, image_of

LEAF = (("ma ", "x"), ("va 00000002", "+1"), ("va 00000003", "-"))


def page(*entries):
    return node_text(("leaf", entries))


def log_of(*records, age=0):
    return [piece_text(age, place, 0, False, record) for place, record in enumerate(records)]


def image_with(*entries, number=3, least=0, records=()):
    """An image with just these entries on one page, and these records behind it."""
    return image_of((0, 0, 1, number, least, 2), (page(*entries),), log_of(*records))


class MeaningTest(Case):
    def test_example(self):
        disk = fresh_disk(20, 4)
        store = Store(disk)
        store.add((("k", "1"),))
        store.add((("k", None), ("m", "2")), (("w", "t"),))
        store.sync()
        self.assertEqual(meaning_of(disk.image, 200), (0, 2, (("k", ((1, "1"), (2, None))), ("m", ((2, "2"),))),
                                                       (("w", "t"),)))
        store.forget(2)
        store.checkpoint()
        self.assertEqual(meaning_of(disk.image, 200), (2, 2, (("m", ((2, "2"),)),), (("w", "t"),)))

    def test_fresh_images(self):
        for pages, log_blocks, signs in ((1, 1, 100), (150, 48, 1000), (1, 197, 100)):
            self.assertEqual(meaning_of(image=fresh_image(pages, log_blocks, signs), signs=signs), (0, 0, (), ()))

    def test_how_versions_and_marks_lie(self):
        self.assertEqual(meaning_of(image_with(*LEAF), 200), (0, 3, (("a", ((2, "1"), (3, None))),), (("a", "x"),)))
        odd = (("m ", ""), ("m!a!b!ba ", "-"), ("v 00000001", "+"))
        self.assertEqual(meaning_of(image_with(*odd), 200),
                         (0, 3, (("", ((1, ""),)),), (("", ""), (" !!a", "-"))))
        long = ("v" + "k" * 120 + " 99999999", "+-")
        self.assertEqual(meaning_of(image_with(long, number=99999999), 200),
                         (0, 99999999, (("k" * 120, ((99999999, "-"),)),), ()))

    def test_versions_of_several_leaves(self):
        leaves = (page(LEAF[0], LEAF[1]), page(LEAF[2], ("vb 00000001", "+")))
        top = node_text(("inner", ("va 00000003",), (0, 1)))
        image = image_of((0, 0, 3, 3, 0, 3), leaves + (top,))
        self.assertEqual(meaning_of(image, 200),
                         (0, 3, (("a", ((2, "1"), (3, None))), ("b", ((1, ""),))), (("a", "x"),)))

    def test_records_behind_the_tree(self):
        records = (deed_text("C", (("a", "4"), ("c", "5")), (("a", None), ("b", "y"))),
                   deed_text("M", (), (("b", "z"), ("c", ""))), deed_text("C", (), ()),
                   deed_text("C", (("c", None),), ()))
        image = image_with(*LEAF, records=records)
        self.assertEqual(meaning_of(image, 200),
                         (0, 6, (("a", ((2, "1"), (3, None), (4, "4"))), ("c", ((4, "5"), (6, None)))),
                          (("b", "z"), ("c", ""))))

    def test_windows(self):
        records = (window_text(2), deed_text("C", (("a", "4"), ("b", None)), ()), window_text(2), window_text(4))
        told = [meaning_of(image_with(*LEAF, least=1, records=records[:many]), 200) for many in range(5)]
        self.assertEqual([meaning[:2] for meaning in told], [(1, 3), (2, 3), (2, 4), (2, 4), (4, 4)])
        self.assertEqual(told[1][2], (("a", ((2, "1"), (3, None))),))
        self.assertEqual(told[3][2], (("a", ((2, "1"), (3, None), (4, "4"))), ("b", ((4, None),))))
        self.assertEqual(told[4][2], (("a", ((4, "4"),)),))

    def test_what_no_past_sees_is_left_out(self):
        versions = (("va 00000002", "+1"), ("va 00000003", "-"), ("va 00000005", "+2"))
        told = [meaning_of(image_with(*versions, number=6, least=least), 200)[2] for least in range(7)]
        whole = (2, "1"), (3, None), (5, "2")
        self.assertEqual(told, [(("a", versions),) for versions in (whole, whole, whole, whole[2:], whole[2:],
                                                                    whole[2:], whole[2:])])
        gone = (("va 00000002", "+1"), ("va 00000003", "-"))
        self.assertEqual([meaning_of(image_with(*gone, least=least), 200)[2] for least in range(4)],
                         [(("a", whole[:2]),)] * 3 + [()])
        self.assertEqual(meaning_of(image_with(("va 00000001", "-"), least=0), 200)[2], (("a", ((1, None),)),))
        self.assertEqual(meaning_of(image_with(("va 00000001", "-"), least=1), 200)[2], ())

    def test_only_the_ages_records_count(self):
        image = image_of((3, 7, 0, 0, 0, 1), (), log_of(deed_text("C", (), ()), age=6))
        self.assertEqual(meaning_of(image, 200), (0, 0, (), ()))
        image = image_of((3, 7, 0, 0, 0, 1), (), log_of(deed_text("C", (), ()), age=7))
        self.assertEqual(meaning_of(image, 200), (0, 1, (), ()))

    def test_the_greater_head_speaks(self):
        image = list(image_with(*LEAF))
        image[1] = head_text((1, 0, 0, 9, 9, 2))
        self.assertEqual(meaning_of(tuple(image), 200), (9, 9, (), ()))

    def test_records_of_several_blocks(self):
        value = "v" * 25
        record = deed_text("C", tuple((f"k{at:02d}", value) for at in range(20)), ())
        blocks = [piece_text(0, place, 0, place * 181 + 181 < len(record), record[place * 181:place * 181 + 181])
                  for place in range(5)]
        image = image_of((0, 0, 0, 0, 0, 1), (), blocks)
        self.assertEqual(meaning_of(image, 200)[:2], (0, 1))
        self.assertEqual(len(meaning_of(image, 200)[2]), 20)

    def test_stores_by_chance(self):
        for seed in range(60):
            chance = Random(seed)
            disk = fresh_disk(100, 6)
            store, records = Store(disk), []
            for _ in range(25):
                deed = chance.randrange(8)
                if deed == 0:
                    records.append(("W", chance.randrange(store.least, store.number + 1)))
                    store.forget(records[-1][1])
                elif deed == 1:
                    store.checkpoint()
                elif deed == 2:
                    records.append(("M", changes_by_chance(chance, 3)))
                    store.add((), records[-1][1], False)
                else:
                    records.append(("C", changes_by_chance(chance, 4), changes_by_chance(chance, 2)))
                    store.add(records[-1][1], records[-1][2])
                self.assertEqual(store.meaning(), fold(records))
                if chance.randrange(3) == 0:
                    store.sync()
                    self.assertEqual(meaning_of(disk.image, 200), fold(records))


class NoMeaningTest(Case):
    def no_store(self, image, signs=200):
        self.refused(NoStore, meaning_of, image, signs)
        self.refused(NoStore, Store, Disk(image, signs))

    def test_heads(self):
        self.no_store(("", "", "", ""))
        good = image_with(*LEAF)
        meaning_of(good, 200)
        for head in ((0, 0, 0, 0, 0, 0), (0, 0, 3, 3, 0, 2), (0, 0, 1, 3, 4, 2), (0, 0, 1, 3, 0, 6), "H", "x"):
            text = head if isinstance(head, str) else head_text(head)
            self.no_store((text,) + good[1:])

    def test_nodes(self):
        good = image_with(*LEAF)
        for text in ("", "x", "L001", "L001000", "I2", page(*LEAF) + "0"):
            self.no_store(good[:2] + (text,) + good[3:])
        # A page stands twice, is none, or leads to itself.
        for kids in ((0, 0), (1, 1), (0, 2), (0, 9999), (1, 0)):
            top = node_text(("inner", ("va 00000003",), kids))
            self.no_store((head_text((0, 0, 2, 3, 0, 2)), "", page(*LEAF), top, ""))

    def test_trees_that_are_not_sound(self):
        for entries in ((), (LEAF[1], LEAF[0]), (LEAF[0], LEAF[0]),
                        LEAF + (("vb 00000001", "+"), ("vb 00000002", "+"))):
            self.no_store(image_with(*entries))
        one = node_text(("inner", (), (0,)))
        self.no_store(image_of((0, 0, 2, 3, 0, 2), (page(*LEAF), one)))
        lone = node_text(("inner", ("va 00000002",), (0, 1)))
        self.no_store(image_of((0, 0, 3, 3, 0, 3), (page(LEAF[0]), page(*LEAF[1:]), lone)))

    def test_entries(self):
        codes = ["", " ", "m", "v", "a ", "x 00000001", "ma", "ma 1", "m!", "m! ", "m!c ", "m!! ", "va 0000001",
                 "va 000000001", "va00000001", "va 0000000x", "va  00000001", "v!c 00000001", "Va 00000001",
                 "a 00000001", "va 00000000", "va 00000004", "va 00000001 ", "ma  "]
        for code in codes:
            self.no_store(image_with((code, "+1")))
        for value in ("", "1", "*1", "--", "-1", " +"):
            self.no_store(image_with(("va 00000001", value)))

    def test_records(self):
        for record in ("", "x", "C", "C0001", "M0001-0001a", "W0000000", "C0000x", "C0002-0001b-0001a"):
            self.no_store(image_with(*LEAF, records=(record,)))
        # No window leads back, or to a past that is not there yet.
        self.no_store(image_with(*LEAF, records=(window_text(4),)))
        self.no_store(image_with(*LEAF, least=2, records=(window_text(1),)))
        self.no_store(image_with(*LEAF, records=(window_text(2), window_text(1))))

    def test_errors_of_its_arguments(self):
        image = fresh_image(3, 3, 200)
        for signs in WRONG_INTEGERS + (99, 1001):
            self.refused(InvalidSigns, meaning_of, image, signs)
            self.refused(InvalidSigns, meaning_of, None, signs)
        for other in (None, True, 0, "", (), [], {}, list(image), image[:3], image * 30, image[:4] + (None,),
                      image[:4] + ("x" * 201,), image[:4] + ("\n",)):
            self.refused(InvalidImage, meaning_of, other, 200)
        meaning_of(image[:7] + ("x" * 200,), 200)

    def test_images_by_chance(self):
        kinds = {}
        for seed in range(1500):
            chance = Random(seed)
            blocks = list(image_with(*LEAF, records=(deed_text("C", (("a", "1"),), ()), window_text(3))))
            for _ in range(chance.randrange(1, 4)):
                at = chance.randrange(6)
                block = list(blocks[at])
                if block:
                    block[chance.randrange(len(block))] = chance.choice("0123456789 +-.LIHCMWva!")
                blocks[at] = "".join(block)
            try:
                told = meaning_of(tuple(blocks), 200)
            except StoreError as error:
                self.assertIs(type(error), NoStore)
                told = None
            self.assertIn(type(told), (tuple, type(None)))
            kinds[told is None] = True
        self.assertEqual(len(kinds), 2)


if __name__ == "__main__":
    unittest.main()
