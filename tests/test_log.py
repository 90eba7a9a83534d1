from random import Random
import unittest

from heldpasts.disk import Disk
from heldpasts.errors import (InvalidArea, InvalidCount, InvalidImage, InvalidRecord, InvalidSigns, LogFull, PowerCut)
from heldpasts.log import Log, piece_text, piece_told, pieces_of, told_log
from tests.helpers import WRONG_INTEGERS, WRONG_TEXTS, Case, exchanged

FULL = "f" * 81


def area(*blocks):
    return tuple(blocks) + ("",) * max(0, 4 - len(blocks))


def records(disk, age=1):
    return told_log(disk.image, disk.signs, 0, len(disk.image), age)


class PiecesTest(Case):
    def test_piece_text(self):
        self.assertEqual(piece_text(1, 0, 0, False, "hi"), "000001000000000000.hi")
        self.assertEqual(piece_text(age=999999, number=12, writer=345, more=True, part=""), "999999000012000345+")

    def test_piece_told(self):
        pieces = [(1, 0, 0, False, "hi"), (999999, 999999, 999999, True, "~ +."), (0, 0, 0, True, ""),
                  (0, 0, 0, False, "")]
        for piece in pieces + [(7, 8, 9, True, "p" * 981)]:
            self.assertEqual(piece_told(piece_text(*piece)), piece)
            self.assertIs(type(piece_told(block=piece_text(*piece))[3]), bool)

    def test_blocks_that_are_no_pieces(self):
        block = "000001000000000000.hi"
        for at in range(19):
            self.assertIsNone(piece_told(block[:at]))
        for other in exchanged(block, "x 0.+-"):
            head = other[:18]
            is_piece = len(other) >= 19 and head.isdigit() and other[18] in (".", "+")
            self.assertEqual(piece_told(other) is not None, is_piece, other)
            if is_piece:
                self.assertEqual(piece_text(*piece_told(other)), other)
        for at in range(18):
            for sign in "x -+_/:":
                self.assertIsNone(piece_told(block[:at] + sign + block[at + 1:]))
        for value in WRONG_TEXTS + ("", block + "\n", block + "\u00e9"):
            self.assertIsNone(piece_told(value))

    def test_pieces_of(self):
        for signs in (100, 1000):
            full = signs - 19
            sizes = [0, 1, full - 1, full, full + 1, 2 * full - 1, 2 * full, 2 * full + 1, 3 * full]
            self.assertEqual([pieces_of("a" * size, signs) for size in sizes], [1, 1, 1, 1, 2, 2, 2, 3, 3])
        self.assertEqual(pieces_of(record="a" * 82, signs=100), 2)

    def test_pieces_of_looks_at_its_record(self):
        for record in WRONG_TEXTS:
            self.refused(InvalidRecord, pieces_of, record, 100)


class ToldLogTest(Case):
    def test_example(self):
        image = (piece_text(1, 0, 0, False, "hi"), piece_text(1, 1, 1, True, "x"), "", "")
        self.assertEqual(told_log(image, 100, 0, 3, 1), (("hi",), 1, 2))
        self.assertEqual(told_log(image=image, signs=100, first=0, count=3, age=2), ((), 0, 0))

    def test_records_of_one_and_of_several_blocks(self):
        image = area("x", piece_text(3, 0, 4, False, ""), piece_text(3, 1, 4, True, FULL),
                     piece_text(3, 2, 4, True, FULL),
                     piece_text(3, 3, 4, False, "end"), piece_text(3, 4, 6, False, "last"))
        self.assertEqual(told_log(image, 100, 1, 5, 3), (("", FULL + FULL + "end", "last"), 5, 7))
        self.assertEqual(told_log(image, 100, 1, 4, 3), (("", FULL + FULL + "end"), 4, 5))
        # The area ends amid a record.
        self.assertEqual(told_log(image, 100, 1, 3, 3), (("",), 1, 5))
        self.assertEqual(told_log(image, 100, 1, 2, 3), (("",), 1, 5))
        self.assertEqual(told_log(image, 100, 0, 6, 3), ((), 0, 7))

    def test_full_last_parts(self):
        image = area(piece_text(1, 0, 0, True, FULL), piece_text(1, 1, 0, False, FULL),
                     piece_text(1, 2, 0, False, FULL))
        self.assertEqual(told_log(image, 100, 0, 4, 1), ((FULL + FULL, FULL), 3, 1))

    def test_another_age(self):
        image = area(piece_text(1, 0, 0, False, "a"), piece_text(2, 1, 9, False, "b"), piece_text(1, 2, 3, False, "c"))
        self.assertEqual(told_log(image, 100, 0, 4, 1), (("a",), 1, 4))
        self.assertEqual(told_log(image, 100, 0, 4, 2), ((), 0, 10))
        image = area(piece_text(1, 0, 0, True, FULL), piece_text(2, 1, 0, False, "b"))
        self.assertEqual(told_log(image, 100, 0, 4, 1), ((), 0, 1))

    def test_numbers_out_of_their_places(self):
        image = area(piece_text(1, 0, 0, False, "a"), piece_text(1, 2, 8, False, "b"), piece_text(1, 2, 0, False, "c"))
        self.assertEqual(told_log(image, 100, 0, 4, 1), (("a",), 1, 9))
        image = area(piece_text(1, 0, 0, True, FULL), piece_text(1, 0, 0, False, "b"))
        self.assertEqual(told_log(image, 100, 0, 4, 1), ((), 0, 1))

    def test_writers(self):
        image = area(piece_text(1, 0, 5, False, "a"), piece_text(1, 1, 5, False, "b"), piece_text(1, 2, 7, False, "c"),
                     piece_text(1, 3, 6, False, "d"))
        self.assertEqual(told_log(image, 100, 0, 4, 1), (("a", "b", "c"), 3, 8))
        # All pieces of a record are of one writer, not of a greater one either.
        for writer in (4, 6):
            image = area(piece_text(1, 0, 5, True, FULL), piece_text(1, 1, writer, False, "b"))
            self.assertEqual(told_log(image, 100, 0, 4, 1), ((), 0, max(5, writer) + 1))

    def test_a_part_that_is_too_short(self):
        for size in (0, 1, 80):
            image = area(piece_text(1, 0, 0, True, "f" * size), piece_text(1, 1, 0, False, "b"))
            self.assertEqual(told_log(image, 100, 0, 4, 1), ((), 0, 1))
        # With more signs the same parts are too short.
        image = area(piece_text(1, 0, 0, True, FULL), piece_text(1, 1, 0, False, "b"))
        self.assertEqual(told_log(image, 100, 0, 4, 1), ((FULL + "b",), 2, 1))
        self.assertEqual(told_log(image, 101, 0, 4, 1), ((), 0, 1))

    def test_the_next_writer_looks_at_the_whole_area_and_no_further(self):
        image = area("", piece_text(1, 0, 2, False, "a"), "", piece_text(1, 77, 40, True, "short"),
                     piece_text(1, 0, 50, False, ""))
        self.assertEqual(told_log(image, 100, 1, 3, 1), (("a",), 1, 41))
        self.assertEqual(told_log(image, 100, 1, 4, 1), (("a",), 1, 51))
        self.assertEqual(told_log(image, 100, 1, 2, 1), (("a",), 1, 3))
        self.assertEqual(told_log(area(), 100, 0, 4, 0), ((), 0, 0))

    def test_wrong_arguments_in_their_sequence(self):
        image = area()
        for signs in WRONG_INTEGERS + (99, 1001):
            self.refused(InvalidSigns, told_log, None, signs, 9, 9, -1)
        for bad in (None, list(image), image[:3], ("", "", "", "b" * 101), ("",) * 201):
            self.refused(InvalidImage, told_log, bad, 100, 9, 9, -1)
        for wrong in WRONG_INTEGERS + (-1, 3, 4):
            self.refused(InvalidArea, told_log, image, 100, wrong, 2, -1)
        for wrong in WRONG_INTEGERS + (-1, 0, 4, 5):
            self.refused(InvalidArea, told_log, image, 100, 1, wrong, -1)
        for wrong in WRONG_INTEGERS + (-1, 1000000):
            self.refused(InvalidCount, told_log, image, 100, 1, 3, wrong)
        self.assertEqual(told_log(image, 100, 1, 3, 999999), ((), 0, 0))
        self.assertEqual(told_log(image, 100, 3, 1, 0), ((), 0, 0))

    def test_an_area_has_at_most_197_blocks(self):
        image = ("",) * 200
        self.assertEqual(told_log(image, 100, 3, 197, 0), ((), 0, 0))
        self.assertEqual(told_log(image, 100, 0, 197, 0), ((), 0, 0))
        self.refused(InvalidArea, told_log, image, 100, 0, 198, 0)
        self.refused(InvalidArea, told_log, image, 100, 4, 197, 0)


class LogTest(Case):
    def test_records_room_and_what_waits(self):
        disk = Disk(("h",) + ("",) * 6, 100)
        log = Log(disk, 1, 5, 3)
        self.assertEqual((log.records, log.room, disk.pending), ((), 5, ()))
        self.assertIsNone(log.append("a"))
        self.assertEqual((log.records, log.room), (("a",), 4))
        self.assertEqual(disk.pending, ((1, piece_text(3, 0, 0, False, "a")),))
        self.assertIsNone(log.append(record=FULL + "bc"))
        self.assertEqual((log.records, log.room), (("a", FULL + "bc"), 2))
        self.assertEqual(disk.pending[1:],
                         ((2, piece_text(3, 1, 0, True, FULL)), (3, piece_text(3, 2, 0, False, "bc"))))
        log.append("")
        log.append(FULL)
        self.assertEqual(disk.pending[3:], ((4, piece_text(3, 3, 0, False, "")), (5, piece_text(3, 4, 0, False, FULL))))
        self.assertEqual((log.records, log.room), (("a", FULL + "bc", "", FULL), 0))
        self.assertEqual(disk.image, ("h",) + ("",) * 6)
        self.assertIsNone(log.sync())
        self.assertEqual((disk.pending, disk.image[0], disk.image[6]), ((), "h", ""))
        self.assertEqual(told_log(disk.image, 100, 1, 5, 3), (log.records, 5, 1))

    def test_log_full_ahead_of_power_cut(self):
        disk = Disk(("",) * 4, 100, 2)
        log = Log(disk, 1, 2, 0)
        self.refused(LogFull, log.append, FULL + FULL + "c")
        log.append("a")
        self.refused(LogFull, log.append, FULL + "b")
        self.assertEqual((log.records, log.room, len(disk.pending), disk.steps), (("a",), 1, 1, 1))
        log.append("b")
        self.refused(LogFull, log.append, "")
        self.assertEqual((log.records, log.room, disk.steps, disk.out), (("a", "b"), 0, 0, False))
        self.refused(PowerCut, log.sync)
        self.refused(LogFull, log.append, "")
        self.refused(InvalidRecord, log.append, None)

    def test_an_append_that_raises(self):
        disk = Disk(("",) * 5, 100, 1)
        log = Log(disk, 0, 5, 0)
        self.refused(PowerCut, log.append, FULL + FULL)
        self.assertEqual((log.records, log.room, disk.out), ((), 5, True))
        self.assertEqual(disk.pending, ((0, piece_text(0, 0, 0, True, FULL)),))

    def test_wrong_records(self):
        disk = Disk(("",) * 5, 100)
        log = Log(disk, 0, 5, 0)
        self.refused_each(InvalidRecord, log.append, WRONG_TEXTS)
        self.assertEqual((log.records, log.room, disk.pending), ((), 5, ()))

    def test_wrong_openings(self):
        disk = Disk(("",) * 200, 100, 0)
        self.refused(PowerCut, disk.flush)
        for wrong in WRONG_INTEGERS + (-1, 200, 199):
            self.refused(InvalidArea, Log, disk, wrong, 2, -1)
        for wrong in WRONG_INTEGERS + (-1, 0, 198, 199):
            self.refused(InvalidArea, Log, disk, 1, wrong, -1)
        for wrong in WRONG_INTEGERS + (-1, 1000000):
            self.refused(InvalidCount, Log, disk, 3, 197, wrong)
        self.refused(PowerCut, Log, disk, 3, 197, 999999)

    def test_an_opening_only_reads_also_what_waits(self):
        disk = Disk(("",) * 4, 100, 2)
        disk.write(0, piece_text(1, 0, 3, False, "a"))
        disk.write(1, piece_text(1, 1, 3, False, "b"))
        ahead = (disk.image, disk.pending, disk.steps)
        log = Log(disk=disk, first=0, count=4, age=1)
        self.assertEqual((log.records, log.room), (("a", "b"), 2))
        self.assertEqual((disk.image, disk.pending, disk.steps, disk.out), ahead + (False,))

    def test_a_new_opening_writes_with_the_next_writer(self):
        disk = Disk(("",) * 4, 100)
        Log(disk, 0, 4, 1).append("a")
        second = Log(disk, 0, 4, 1)
        second.append("b")
        self.assertEqual(disk.pending[1], (1, piece_text(1, 1, 1, False, "b")))
        # The writer stays that of the opening.
        second.append("c")
        self.assertEqual(disk.pending[2], (2, piece_text(1, 2, 1, False, "c")))
        self.assertEqual(Log(disk, 0, 4, 1).records, ("a", "b", "c"))

    def test_an_elder_piece_behind_the_run_is_not_told(self):
        disk = Disk(("",) * 4, 100)
        log = Log(disk, 0, 4, 1)
        log.append("a")
        log.append("b")
        log.append("c")
        disk = Disk(disk.behind((0, 1, 1, 0)), 100)
        log = Log(disk, 0, 4, 1)
        self.assertEqual((log.records, log.room), ((), 4))
        log.append("x")
        log.sync()
        self.assertEqual(records(disk), (("x",), 1, 2))

    def test_beginnings_behind_every_cut_of_two_openings(self):
        for steps in range(8):
            disk = Disk(("",) * 4, 100, steps)
            for image in self.check_cuts(disk, ("a", FULL + "b", "c")):
                for later_steps in range(6):
                    self.check_cuts(Disk(image, 100, later_steps), ("x", "y", "z"))

    def check_cuts(self, disk, texts):
        """Appends texts, syncing behind every second one, and looks at all images that a cut then leaves."""
        log = Log(disk, 0, 4, 1)
        synced = log.records
        try:
            for at, text in enumerate(texts):
                log.append(text)
                if at % 2:
                    log.sync()
                    synced = log.records
        except (PowerCut, LogFull):
            pass
        for image in disk.images():
            told = told_log(image, 100, 0, 4, 1)[0]
            self.assertEqual(told, log.records[:len(told)])
            self.assertEqual(told[:len(synced)], synced)
        return disk.images()

    def test_beginnings_behind_many_openings(self):
        for seed in range(150):
            chance = Random(seed)
            image = tuple(["head"] + [""] * 12)
            count = 0
            for _ in range(6):
                disk = Disk(image, 100, chance.choice((None, 1, 3, 6, 9)))
                log = Log(disk, 1, 12, 5)
                self.assertEqual(log.records, told_log(image, 100, 1, 12, 5)[0])
                synced = log.records
                try:
                    for _ in range(chance.randrange(8)):
                        if chance.randrange(3):
                            count += 1
                            log.append(str(count) + "r" * chance.choice((0, 40, 78, 100, 170)))
                        else:
                            log.sync()
                            synced = log.records
                except (PowerCut, LogFull):
                    pass
                waiting = [sum(at == index for at, _ in disk.pending) for index in range(13)]
                image = disk.behind(tuple(chance.randrange(many + 1) for many in waiting))
                told = told_log(image, 100, 1, 12, 5)[0]
                self.assertEqual(told, log.records[:len(told)])
                self.assertEqual(told[:len(synced)], synced)


if __name__ == "__main__":
    unittest.main()
