from random import Random
import unittest

from heldpasts.disk import Disk
from heldpasts.errors import InvalidBlock, InvalidCount, InvalidSigns, NoStore, PageKept, PowerCut
from heldpasts.pages import Pages, fresh_image, head_text, head_told
from tests.helpers import WRONG_INTEGERS, WRONG_TEXTS, Case, exchanged

HEAD = (3, 1, 5, 12, 4, 9)


def disk_with(one, other, blocks=20, steps=None):
    """A disk whose first two blocks are these heads, or texts."""
    heads = [head if isinstance(head, str) else head_text(head) for head in (one, other)]
    return Disk(tuple(heads) + ("",) * (blocks - 2), 100, steps)


class HeadTest(Case):
    def test_head_text(self):
        self.assertEqual(head_text((3, 1, 5, 12, 4, 9)), "H000003000001000500000012000000040009")
        self.assertEqual(head_text(head=(0, 0, 0, 0, 0, 0)), "H" + "0" * 36)
        big = (999999, 999998, 9999, 99999998, 99999997, 9998)
        self.assertEqual(head_text(big), "H999999999998999999999998999999979998")
        self.assertEqual(head_told(head_text(big)), big)

    def test_head_told(self):
        self.assertEqual(head_told("H000003000001000500000012000000040009"), HEAD)
        self.assertEqual(head_told(block="H" + "0" * 36), (0,) * 6)

    def test_texts_near_to_a_head(self):
        text = head_text(HEAD)
        for other in exchanged(text, "0H x-+"):
            is_head = len(other) == 37 and other[0] == "H" and other[1:].isdigit()
            self.assertEqual(head_told(other) is not None, is_head, other)
            if is_head:
                self.assertEqual(head_text(head_told(other)), other)
        for other in ("", "H", "h" + text[1:], text + "0", " " + text, text + " ", "0" * 37, "x" * 100):
            self.assertIsNone(head_told(other))
        for at in range(1, 37):
            self.assertIsNone(head_told(text[:at] + " " + text[at + 1:]))
            self.assertIsNone(head_told(text[:at] + "\u0663" + text[at + 1:]))
        for value in WRONG_TEXTS:
            self.assertIsNone(head_told(value))

    def test_fresh_image(self):
        self.assertEqual(fresh_image(8, 2, 100), ("H" + "0" * 32 + "0008",) + ("",) * 11)
        self.assertEqual(fresh_image(pages=1, log_blocks=1, signs=1000), ("H" + "0" * 32 + "0001", "", "", ""))
        self.assertEqual(len(fresh_image(150, 48, 100)), 200)
        self.assertEqual(len(fresh_image(1, 197, 100)), 200)

    def test_fresh_image_beyond_its_bounds(self):
        for pages in WRONG_INTEGERS + (0, -1, 151, 10 ** 80):
            self.refused(InvalidCount, fresh_image, pages, 1, 100)
            self.refused(InvalidCount, fresh_image, pages, None, None)
        for log_blocks in WRONG_INTEGERS + (0, -1, 49):
            self.refused(InvalidCount, fresh_image, 150, log_blocks, 100)
            self.refused(InvalidCount, fresh_image, 150, log_blocks, 99)
        self.refused(InvalidCount, fresh_image, 1, 198, 100)
        for signs in WRONG_INTEGERS + (99, 1001):
            self.refused(InvalidSigns, fresh_image, 8, 2, signs)


class OpeningTest(Case):
    def test_a_fresh_disk(self):
        pages = Pages(disk=Disk(fresh_image(8, 2, 100), 100))
        self.assertEqual((pages.head, pages.kept, pages.spare()), ((0, 0, 0, 0, 0, 8), (), list(range(8))))

    def test_the_greater_head_is_taken(self):
        elder, newer = (3, 9, 5, 12, 4, 9), (4, 0, 0, 0, 0, 1)
        self.assertEqual(Pages(disk_with(elder, newer)).head, newer)
        self.assertEqual(Pages(disk_with(newer, elder)).head, newer)
        # As tuples go: of one turn, the greater age.
        self.assertEqual(Pages(disk_with((3, 1, 0, 0, 0, 9), (3, 0, 9, 9, 9, 9))).head, (3, 1, 0, 0, 0, 9))
        self.assertEqual(Pages(disk_with("", HEAD)).head, HEAD)
        self.assertEqual(Pages(disk_with(HEAD, "x")).head, HEAD)
        self.assertEqual(Pages(disk_with(HEAD, HEAD)).head, HEAD)

    def test_heads_that_wait_are_read(self):
        disk = disk_with(HEAD, "")
        disk.write(1, head_text((4, 2, 0, 13, 5, 8)))
        self.assertEqual(Pages(disk).head, (4, 2, 0, 13, 5, 8))

    def test_grounds_for_no_store(self):
        for one, other in (("", ""), ("x", "H"), (head_text(HEAD) + " ", head_text(HEAD)[:-1])):
            self.refused(NoStore, Pages, disk_with(one, other))
        wrong = [(3, 1, 0, 12, 4, 0), (3, 1, 0, 12, 4, 18), (3, 1, 10, 12, 4, 9), (3, 1, 5, 12, 13, 9),
                 (3, 1, 0, 0, 1, 9)]
        for head in wrong:
            with self.subTest(head=head):
                self.refused(NoStore, Pages, disk_with(head, ""))
                # The other one is not asked, though it is right.
                self.refused(NoStore, Pages, disk_with((2, 9, 5, 12, 4, 9), head))
        for head in ((3, 1, 0, 0, 0, 1), (3, 1, 17, 12, 12, 17), (3, 1, 9, 12, 12, 9)):
            self.assertEqual(Pages(disk_with(head, "")).head, head)
            self.assertEqual(Pages(disk_with((2, 9, 99, 0, 9, 99), head)).head, head)

    def test_an_opening_behind_the_cut(self):
        disk = disk_with(HEAD, "", steps=0)
        self.assertEqual(Pages(disk).head, HEAD)
        self.refused(PowerCut, disk.flush)
        self.refused(PowerCut, Pages, disk)


class PagesTest(Case):
    def test_keep_spare_read_place(self):
        disk = disk_with(HEAD, "")
        pages = Pages(disk)
        self.assertIsNone(pages.keep((1, 4, 8)))
        self.assertEqual((pages.kept, pages.spare()), ((1, 4, 8), [0, 2, 3, 5, 6, 7]))
        pages.spare().clear()
        self.assertEqual(pages.spare(), [0, 2, 3, 5, 6, 7])
        self.assertIsNone(pages.place(0, "zero"))
        self.assertIsNone(pages.place(page=7, block="b" * 100))
        self.assertEqual(disk.pending, ((2, "zero"), (9, "b" * 100)))
        self.assertEqual([pages.read(0), pages.read(page=7), pages.read(8)], ["zero", "b" * 100, ""])
        self.refused(PageKept, pages.place, 4, "x")
        pages.keep(lot=(0,))
        self.assertEqual(pages.spare(), [1, 2, 3, 4, 5, 6, 7, 8])
        pages.place(4, "x")
        self.refused(PageKept, pages.place, 0, "x")
        self.assertEqual(len(disk.pending), 3)
        pages.keep(tuple(range(9)))
        self.assertEqual(pages.spare(), [])

    def test_wrong_pages_and_blocks(self):
        disk = disk_with(HEAD, "")
        pages = Pages(disk)
        pages.keep((0, 8))
        for page in WRONG_INTEGERS + (-1, 9, 10 ** 80):
            self.refused(InvalidCount, pages.read, page)
            self.refused(InvalidCount, pages.place, page, None)
        for block in WRONG_TEXTS + ("b" * 101,):
            self.refused(InvalidBlock, pages.place, 8, block)
            self.refused(InvalidBlock, pages.place, 1, block)
        self.assertEqual((disk.pending, pages.kept), ((), (0, 8)))

    def test_calls_behind_the_cut(self):
        disk = disk_with(HEAD, "", steps=0)
        pages = Pages(disk)
        pages.keep((3,))
        self.refused(PowerCut, pages.place, 2, "x")
        self.refused(PowerCut, pages.place, 2, "x")
        self.refused(PageKept, pages.place, 3, "x")
        self.refused(InvalidBlock, pages.place, 3, None)
        self.refused(InvalidCount, pages.read, 9)
        self.refused(PowerCut, pages.read, 3)
        self.refused(PowerCut, pages.turn_to, 1, 2, 3, 3)
        pages.keep((5,))
        self.assertEqual((pages.head, pages.spare()), (HEAD, [0, 1, 2, 3, 4, 6, 7, 8]))


class TurnTest(Case):
    def test_a_turn(self):
        disk = disk_with("", HEAD)
        pages = Pages(disk)
        pages.keep((4,))
        pages.place(0, "zero")
        self.assertIsNone(pages.turn_to(0, 2, 15, 6))
        head = (4, 2, 1, 15, 6, 9)
        self.assertEqual((pages.head, pages.kept), (head, (4,)))
        self.assertEqual((disk.pending, disk.image[:4]), ((), (head_text(head), head_text(HEAD), "zero", "")))
        pages.turn_to(root=None, age=3, number=16, least=16)
        head = (5, 3, 0, 16, 16, 9)
        self.assertEqual((pages.head, disk.image[1]), (head, head_text(head)))
        pages.turn_to(8, 4, 17, 16)
        self.assertEqual((pages.head, disk.image[0]), ((6, 4, 9, 17, 16, 9), head_text((6, 4, 9, 17, 16, 9))))

    def test_each_step_of_a_turn(self):
        newer = (4, 2, 1, 15, 6, 9)
        first = disk_with("", HEAD).image
        placed = first[:2] + ("zero",) + first[3:]
        turned = (head_text(newer),) + placed[1:]
        behind = [(first, ((2, "zero"),)), (placed, ()), (placed, ((0, head_text(newer)),)), (turned, ())]
        for steps, (image, pending) in enumerate(behind):
            disk = disk_with("", HEAD, steps=1 + steps)
            pages = Pages(disk)
            pages.place(0, "zero")
            if steps < 3:
                self.refused(PowerCut, pages.turn_to, 0, 2, 15, 6)
            else:
                pages.turn_to(0, 2, 15, 6)
            self.assertEqual((disk.image, disk.pending, disk.steps), (image, pending, 0))
            self.assertEqual(pages.head, newer if steps == 3 else HEAD)

    def test_elder_or_newer(self):
        for seed in range(60):
            chance = Random(seed)
            disk = disk_with(HEAD, head_text((2, 0, 0, 0, 0, 9)), steps=chance.randrange(9))
            pages = Pages(disk)
            pages.keep((1, 4))
            elder, placed = disk.image, {}
            try:
                for _ in range(chance.randrange(5)):
                    page = chance.choice(pages.spare())
                    block = chance.choice("abc")
                    pages.place(page, block)
                    placed[page] = block
                pages.turn_to(0, 2, 15, 6)
                self.assertEqual(disk.images(), [disk.image])
            except PowerCut:
                pass
            for image in disk.images():
                head = Pages(Disk(image, 100)).head
                if head == HEAD:
                    self.assertEqual([image[3], image[6]], [elder[3], elder[6]])
                else:
                    self.assertEqual(head, (4, 2, 1, 15, 6, 9))
                    self.assertEqual([image[2 + page] for page in range(9)],
                                     [placed.get(page, "") for page in range(9)])


if __name__ == "__main__":
    unittest.main()
