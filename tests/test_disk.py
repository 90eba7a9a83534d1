from itertools import product
from random import Random
import unittest

from heldpasts.disk import Disk
from heldpasts.errors import (InvalidBlock, InvalidChoice, InvalidCount, InvalidImage, InvalidIndex, InvalidSigns,
                              PowerCut, TooMany)
from tests.helpers import WRONG_INTEGERS, WRONG_TEXTS, Case

FOUR = ("", "a", "", "")


def fields(disk):
    return (disk.image, disk.signs, disk.pending, disk.steps, disk.out)


def all_left(disk):
    """All images that a cut can leave, by going through all choices."""
    ways = [range(1 + sum(index == at for index, _ in disk.pending)) for at in range(len(disk.image))]
    return sorted({disk.behind(choice) for choice in product(*ways)})


class DiskTest(Case):
    def test_example(self):
        disk = Disk(("", "a", "", ""), 100, steps=3)
        told = [disk.write(1, "b"), disk.write(1, "c"), disk.read(1), disk.behind((0, 1, 0, 0)),
                len(disk.images()), disk.flush(), disk.image]
        self.assertEqual(told, [None, None, "c", ("", "b", "", ""), 3, None, ("", "c", "", "")])
        self.refused(PowerCut, disk.write, 0, "d")

    def test_fields_at_the_making(self):
        self.assertEqual(fields(Disk(FOUR, 100)), (FOUR, 100, (), None, False))
        self.assertEqual(fields(Disk(steps=2, signs=1000, image=FOUR)), (FOUR, 1000, (), 2, False))
        self.assertEqual(fields(Disk(FOUR, 100, 0)), (FOUR, 100, (), 0, False))

    def test_fields_behind_each_deed(self):
        disk = Disk(FOUR, 100, 4)
        disk.write(index=0, block="x")
        self.assertEqual(fields(disk), (FOUR, 100, ((0, "x"),), 3, False))
        disk.write(3, "y")
        disk.write(0, "z")
        self.assertEqual(fields(disk), (FOUR, 100, ((0, "x"), (3, "y"), (0, "z")), 1, False))
        self.assertEqual([disk.read(index=at) for at in range(4)], ["z", "a", "", "y"])
        self.assertEqual(fields(disk), (FOUR, 100, ((0, "x"), (3, "y"), (0, "z")), 1, False))
        disk.flush()
        self.assertEqual(fields(disk), (("z", "a", "", "y"), 100, (), 0, False))

    def test_without_steps_the_power_is_never_cut(self):
        disk = Disk(FOUR, 100, None)
        for _ in range(300):
            disk.write(2, "w")
            disk.flush()
        self.assertEqual(fields(disk), (("", "a", "w", ""), 100, (), None, False))

    def test_reads_take_no_step_and_an_empty_flush_takes_one(self):
        disk = Disk(FOUR, 100, 1)
        for _ in range(5):
            disk.read(1)
        self.assertEqual(disk.steps, 1)
        disk.flush()
        self.assertEqual(fields(disk), (FOUR, 100, (), 0, False))

    def test_the_refused_step_cuts_the_power(self):
        for last in ("write", "flush"):
            disk = Disk(FOUR, 100, 1)
            disk.write(1, "b")
            self.assertEqual(disk.read(1), "b")
            self.assertFalse(disk.out)
            if last == "write":
                self.refused(PowerCut, disk.write, 1, "c")
            else:
                self.refused(PowerCut, disk.flush)
            self.assertEqual(fields(disk), (FOUR, 100, ((1, "b"),), 0, True))
            self.refused(PowerCut, disk.read, 1)
            self.refused(PowerCut, disk.write, 1, "c")
            self.refused(PowerCut, disk.flush)
            self.assertEqual(fields(disk), (FOUR, 100, ((1, "b"),), 0, True))
            self.assertEqual(disk.images(), [("", "a", "", ""), ("", "b", "", "")])
            self.assertEqual(disk.behind(choice=(0, 1, 0, 0)), ("", "b", "", ""))

    def test_no_steps_at_all(self):
        disk = Disk(FOUR, 100, 0)
        self.assertEqual(disk.read(1), "a")
        self.refused(PowerCut, disk.flush)
        self.assertTrue(disk.out)

    def test_errors_of_the_table_stand_ahead_of_the_cut(self):
        disk = Disk(FOUR, 100, 0)
        self.refused(InvalidIndex, disk.write, 4, "b")
        self.refused(InvalidBlock, disk.write, 0, "b" * 101)
        self.assertFalse(disk.out)
        self.refused(PowerCut, disk.write, 0, "b")
        self.refused(InvalidIndex, disk.read, 4)
        self.refused(InvalidIndex, disk.write, -1, None)
        self.refused(InvalidBlock, disk.write, 0, None)
        self.refused(InvalidChoice, disk.behind, ())

    def test_behind(self):
        disk = Disk(FOUR, 100)
        for index, block in ((0, "x"), (1, "b"), (0, "y")):
            disk.write(index, block)
        self.assertEqual(disk.behind((0, 0, 0, 0)), FOUR)
        self.assertEqual(disk.behind((1, 1, 0, 0)), ("x", "b", "", ""))
        self.assertEqual(disk.behind((2, 0, 0, 0)), ("y", "a", "", ""))
        wrong = [(3, 0, 0, 0), (0, 2, 0, 0), (0, 0, 1, 0), (-1, 0, 0, 0), (0, 0, 0), (0, 0, 0, 0, 0), [0, 0, 0, 0],
                 (True, 0, 0, 0), (False, 0, 0, 0), ("0", 0, 0, 0), (None, 0, 0, 0), ((0,), 0, 0, 0), (), None, 0,
                 "0000"]
        self.refused_each(InvalidChoice, disk.behind, wrong)

    def test_images_ascend_and_stand_once(self):
        disk = Disk(FOUR, 100)
        self.assertEqual(disk.images(), [FOUR])
        for index, block in ((0, "x"), (0, ""), (3, "q"), (0, "b"), (1, "a")):
            disk.write(index, block)
        left = disk.images()
        self.assertEqual(left, [(one, "a", "", last) for one in ("", "b", "x") for last in ("", "q")])
        self.assertEqual(left, all_left(disk))
        disk.flush()
        self.assertEqual(disk.images(), [("b", "a", "", "q")])

    def test_images_are_those_of_all_choices(self):
        for seed in range(40):
            chance = Random(seed)
            disk = Disk(tuple(chance.choice(("", "a", "b")) for _ in range(5)), 100)
            for _ in range(chance.randrange(7)):
                disk.write(chance.randrange(5), chance.choice(("", "a", "b", "c")))
            self.assertEqual(disk.images(), all_left(disk))

    def test_a_thousand_choices_and_one_more(self):
        disk = Disk(FOUR, 100)
        for index in range(3):
            for block in range(9):
                disk.write(index, str(block))
        self.assertEqual(len(disk.images()), 1000)
        disk.write(3, "")
        self.assertEqual(self.refused(TooMany, disk.images).count, 1000)
        disk = Disk(FOUR, 100)
        for index, many in ((0, 6), (1, 10), (2, 12)):
            for _ in range(many):
                disk.write(index, "")
        self.assertEqual(self.refused(TooMany, disk.images).count, 1000)
        disk.flush()
        self.assertEqual(disk.images(), [("", "", "", "")])

    def test_large_disks(self):
        image = tuple(str(at) for at in range(200))
        disk = Disk(image, 1000)
        for index in range(9):
            disk.write(index * 20, "z" * 1000)
        self.assertEqual(disk.images(), all_left(disk))

    def test_a_list_that_the_asker_changes(self):
        disk = Disk(FOUR, 100)
        disk.write(0, "x")
        disk.images().clear()
        self.assertEqual(disk.images(), [FOUR, ("x", "a", "", "")])

    def test_wrong_signs(self):
        wrong = WRONG_INTEGERS + (99, 1001, 0, -100, 10 ** 80, "100")
        for signs in wrong:
            self.refused(InvalidSigns, Disk, FOUR, signs)
            self.refused(InvalidSigns, Disk, None, signs, -1)
        Disk(FOUR, 1000)
        Disk(FOUR, 100)

    def test_wrong_images(self):
        wrong = [list(FOUR), FOUR[:3], (), ("",) * 201, None, "abcd", {}, 4, True, ("", "", "", "b" * 101)]
        wrong += [("", "", "", block) for block in WRONG_TEXTS]
        for image in wrong:
            with self.subTest(image=image):
                self.refused(InvalidImage, Disk, image, 100)
                self.refused(InvalidImage, Disk, image, 100, True)
        for image in (("",) * 4, ("",) * 200, ("", "", "", "b" * 100), ("", " ~", "", "")):
            self.assertEqual(Disk(image, 100).image, image)

    def test_wrong_steps(self):
        self.refused_each(InvalidCount, Disk, (True, False, -1, "", "1", (), [], {}), FOUR, 100)
        self.assertEqual(Disk(FOUR, 100, 10 ** 80).steps, 10 ** 80)

    def test_wrong_indexes_and_blocks_change_nothing(self):
        disk = Disk(FOUR, 100, 5)
        disk.write(0, "x")
        ahead = fields(disk)
        for index in WRONG_INTEGERS + (-1, 4, 10 ** 80):
            self.refused(InvalidIndex, disk.read, index)
            self.refused(InvalidIndex, disk.write, index, "b")
            self.refused(InvalidIndex, disk.write, index, None)
        for block in WRONG_TEXTS + ("b" * 101,):
            self.refused(InvalidBlock, disk.write, 0, block)
        self.assertEqual(fields(disk), ahead)
        disk.write(3, "b" * 100)
        self.assertEqual(disk.read(3), "b" * 100)


if __name__ == "__main__":
    unittest.main()
