from itertools import permutations
import unittest

from heldpasts.disk import Disk
from heldpasts.errors import InvalidCount, InvalidLetter, LogFull, StoreFull, TooLong
from heldpasts.feeds import copy_letters
from heldpasts.followers import Follower
from heldpasts.meaning import meaning_of
from heldpasts.store import Store
from tests.helpers import WRONG_INTEGERS, Case
from tests.stores import fresh_store
from tests.test_feeds import LETTERS, NO_LETTERS
from tests.test_store import state_of

ONE = ("part", 1, (("a", "1"), ("b", "1")))
TWO = ("part", 2, (("a", None), ("c", "2"), ("x", None)))
THREE = ("part", 3, (("b", "1"), ("d", "3")))
MAPS = ([], [("a", "1"), ("b", "1")], [("b", "1"), ("c", "2")], [("b", "1"), ("c", "2"), ("d", "3")])


def pieces(number, many, entries=None):
    """All pieces of a past, of one of MAPS or told."""
    rows = MAPS[number] if entries is None else entries
    return [("piece", number, at, many, tuple(rows[at * len(rows) // many:(at + 1) * len(rows) // many]))
            for at in range(many)]


class FollowerCase(Case):
    def setUp(self):
        self.fresh()

    def fresh(self, **sizes):
        self.follower = Follower(fresh_store(**sizes))
        self.store = self.follower.store

    def state(self):
        return (self.follower.number, self.follower.waiting(), self.follower.entries(), state_of(self.store))

    def hear(self, *letters):
        return [self.follower.hear(letter) for letter in letters]

    def stands(self, number, entries=None, waiting=((), ())):
        """It is at a number, nothing is open, and an opening tells the same."""
        entries = MAPS[number] if entries is None else entries
        self.assertEqual((self.follower.number, self.follower.entries(), self.follower.waiting()),
                         (number, entries, waiting))
        image = self.store.disk.image
        self.assertEqual((self.store.disk.pending, meaning_of(image, 200)), ((), self.store.meaning()))
        again = Follower(store=Store(Disk(image, 200)))
        self.assertEqual((again.number, again.entries(), again.waiting()), (number, entries, ((), ())))

    def left(self, *letters):
        """These letters are left: nothing changes."""
        before = self.state()
        for letter in letters:
            self.assertEqual(self.follower.hear(letter=letter), self.follower.number)
            self.assertEqual(self.state(), before)


class HearTest(FollowerCase):
    def test_a_fresh_one(self):
        self.stands(0)
        self.assertIs(self.follower.store, self.store)
        self.assertEqual(self.store.marks(), ())
        self.left(("none",), ("piece", 0, 0, 1, ()), ("piece", 0, 0, 1, (("a", "1"),)), ("piece", 0, 1, 2, ()))

    def test_parts_in_a_row(self):
        self.assertEqual(self.hear(ONE), [1])
        self.stands(1)
        self.assertEqual(self.hear(TWO, THREE), [2, 3])
        self.stands(3)
        self.left(ONE, TWO, THREE, ("none",), ("part", 3, ()), ("piece", 3, 0, 1, ()), ("piece", 2, 0, 2, ()))

    def test_one_commit_with_its_mark(self):
        self.hear(ONE)
        self.assertEqual((self.store.number, self.store.marks()), (1, (("=", "00000001"),)))
        # Only what leads to the new entries is changed.
        self.hear(TWO, THREE)
        self.assertEqual([self.store.versions_of(key) for key in "abcdx"],
                         [((1, "1"), (2, None)), ((1, "1"),), ((2, "2"),), ((3, "3"),), ()])
        self.assertEqual((self.store.number, self.store.marks()), (3, (("=", "00000003"),)))
        self.hear(("part", 4, (("x", None), ("b", "1"))[::-1]))
        self.assertEqual((self.store.number, self.store.meaning()[1]), (4, 4))
        self.assertEqual(self.store.changed_behind(None, None, 3), [])
        self.stands(4, MAPS[3])

    def test_parts_that_wait(self):
        self.assertEqual(self.hear(THREE, TWO), [0, 0])
        self.assertEqual((self.follower.waiting(), self.store.number), (((2, 3), ()), 0))
        self.left(TWO, ("part", 2, ()), ("part", 3, (("q", "1"),)))
        self.assertEqual(self.hear(ONE), [3])
        # All at once.
        self.assertEqual((self.store.number, self.store.marks()), (1, (("=", "00000003"),)))
        self.stands(3)

    def test_a_gap(self):
        self.hear(ONE, THREE, ("part", 5, (("e", "5"),)))
        self.stands(1, waiting=((3, 5), ()))
        self.assertEqual(self.hear(TWO), [3])
        self.stands(3, waiting=((5,), ()))

    def test_pieces(self):
        for many in (1, 2, 3, 4, 9):
            for order in ((lambda rows: rows), (lambda rows: rows[::-1])):
                self.fresh()
                letters = order(pieces(3, many))
                self.assertEqual(self.hear(*letters), [0] * (many - 1) + [3])
                self.assertEqual((self.store.number, self.store.marks()), (1, (("=", "00000003"),)))
                self.stands(3)
                self.left(*letters)

    def test_pieces_that_wait(self):
        two = pieces(2, 3)
        three = pieces(3, 2)
        self.assertEqual(self.hear(two[2], three[1], two[0], ("part", 7, ())), [0] * 4)
        self.assertEqual(self.follower.waiting(), ((7,), ((2, 3, (0, 2)), (3, 2, (1,)))))
        self.left(two[0], two[2], three[1], ("piece", 2, 0, 3, (("q", "1"),)))
        # Of one past in several numbers of pieces.
        self.hear(pieces(2, 2)[1], pieces(2, 4)[3])
        self.assertEqual(self.follower.waiting(),
                         ((7,), ((2, 2, (1,)), (2, 3, (0, 2)), (2, 4, (3,)), (3, 2, (1,)))))
        self.assertEqual(self.hear(two[1]), [2])
        self.stands(2, waiting=((7,), ((3, 2, (1,)),)))
        self.assertEqual(self.hear(pieces(2, 2)[0], pieces(3, 2)[0]), [2, 3])
        self.stands(3, waiting=((7,), ()))

    def test_pieces_of_unlike_numbers_do_not_fit(self):
        self.hear(pieces(2, 2)[0], pieces(3, 2)[1], pieces(2, 3)[1])
        self.assertEqual(self.follower.number, 0)

    def test_pieces_and_parts(self):
        # The past of 2, then the part that leads on.
        self.hear(THREE, pieces(2, 2)[0])
        self.assertEqual(self.follower.waiting(), ((3,), ((2, 2, (0,)),)))
        self.assertEqual(self.hear(pieces(2, 2)[1]), [3])
        self.assertEqual(self.store.number, 1)
        self.stands(3)
        # A part that leads past the pieces: they wait no longer.
        self.fresh()
        self.hear(pieces(1, 2)[0], pieces(2, 2)[1], pieces(3, 2)[0], TWO, ONE)
        self.stands(2, waiting=((), ((3, 2, (0,)),)))

    def test_a_past_with_few_entries(self):
        self.hear(ONE)
        self.assertEqual(self.hear(*pieces(4, 3, [])), [1, 1, 4])
        self.stands(4, [])
        self.assertEqual(self.hear(("piece", 9, 0, 1, (("a", "1"),))), [9])
        self.stands(9, [("a", "1")])

    def test_checkpoints_and_windows_of_its_own(self):
        self.hear(ONE, TWO)
        self.store.checkpoint()
        self.stands(2)
        self.store.forget(2)
        self.stands(2)
        self.assertEqual(self.hear(THREE), [3])
        self.stands(3)

    def test_waiting_letters_are_in_memory_alone(self):
        self.hear(TWO, pieces(3, 2)[0])
        image = self.store.disk.image
        self.follower = Follower(Store(Disk(image, 200)))
        self.store = self.follower.store
        self.assertEqual(self.follower.waiting(), ((), ()))
        self.assertEqual(self.hear(ONE), [1])
        self.stands(1)

    def test_great_numbers(self):
        self.assertEqual(self.hear(("piece", 99999998, 0, 1, ()), ("part", 99999999, (("a", "z"),))),
                         [99999998, 99999999])
        self.stands(99999999, [("a", "z")])

    def test_in_any_sequence(self):
        """Fact M2 of a few letters, in all sequences."""
        letters = [ONE, TWO, THREE] + pieces(2, 2) + [("part", 5, (("e", "5"),))]
        for order in permutations(letters):
            self.fresh()
            self.hear(*order)
            self.assertEqual((self.follower.number, self.follower.entries(), self.follower.waiting()[0]),
                             (3, MAPS[3], (5,)))
        for order in permutations(pieces(2, 2) + [THREE] + pieces(3, 3)[1:]):
            self.fresh()
            self.hear(*order)
            self.assertEqual((self.follower.number, self.follower.entries()), (3, MAPS[3]))


class ErrorTest(FollowerCase):
    def unchanged(self, kind, call, *members):
        before = self.state()
        error = self.refused(kind, call, *members)
        self.assertEqual(self.state(), before)
        return error

    def test_letters(self):
        self.hear(ONE, THREE)
        for value in NO_LETTERS:
            self.unchanged(InvalidLetter, self.follower.hear, value)
        for letter, _ in LETTERS[:4]:
            self.follower.hear(letter)

    def test_too_long(self):
        for letter in (("part", 1, (("a", "x" * 99),)), ("piece", 4, 0, 1, (("a", "x" * 99),))):
            self.hear(THREE)
            for _ in range(2):
                self.assertEqual(self.unchanged(TooLong, self.follower.hear, letter).text, "a")
        # What waits already stays.
        self.assertEqual(self.follower.waiting(), ((3,), ()))
        self.assertEqual(self.hear(("piece", 2, 0, 1, (("a", "y"),))), [3])
        self.stands(3, [("a", "y"), ("b", "1"), ("d", "3")])
        # Only where it leads to counts: what is too long on the way is not put.
        self.assertEqual(self.hear(("part", 5, (("a", "z"),)), ("part", 4, (("a", "x" * 99),))), [3, 5])

    def test_too_long_behind_what_waits(self):
        large = ("part", 2, (("a", "x" * 99),))
        self.assertEqual(self.hear(large), [0])
        self.assertEqual(self.follower.waiting(), ((2,), ()))
        self.unchanged(TooLong, self.follower.hear, ONE)
        self.unchanged(TooLong, self.follower.hear, ONE)
        last = pieces(1, 2)
        self.hear(last[1])
        self.unchanged(TooLong, self.follower.hear, last[0])
        self.assertEqual(self.follower.waiting(), ((2,), ((1, 2, (1,)),)))

    def test_store_full(self):
        self.fresh(pages=1, log_blocks=1)
        self.assertEqual(self.hear(("part", 1, tuple((key, "x") for key in "abcde"))), [1])
        self.unchanged(StoreFull, self.follower.hear, ("part", 2, (("f", "x"),)))
        self.unchanged(StoreFull, self.follower.hear, ("part", 2, (("f", "x"),)))

    def test_log_full(self):
        self.fresh(log_blocks=1)
        self.hear(ONE)
        large = ("part", 2, tuple((f"k{at:02d}", "x" * 20) for at in range(9)))
        for _ in range(2):
            self.refused(LogFull, self.follower.hear, large)
            self.assertEqual((self.follower.number, self.follower.waiting(), self.follower.entries()),
                             (1, ((), ()), MAPS[1]))
        self.stands(1)


class LettersTest(FollowerCase):
    def test_letters(self):
        """Fact M3."""
        leader = fresh_store()
        for letter in (ONE, TWO, THREE):
            leader.add(letter[2])
        leader.sync()
        for number in range(4):
            for size in (1, 2, 3, 700, 10 ** 89):
                self.assertEqual(self.follower.letters(size=size), copy_letters(leader, number, size))
            if number < 3:
                self.hear((ONE, TWO, THREE)[number])
        other = Follower(fresh_store())
        for letter in self.follower.letters(1):
            other.hear(letter)
        self.assertEqual((other.number, other.entries()), (3, MAPS[3]))

    def test_sizes(self):
        self.hear(ONE)
        for size in WRONG_INTEGERS + (0, -1):
            self.refused(InvalidCount, self.follower.letters, size)

    def test_lists_are_new(self):
        self.hear(ONE)
        self.follower.entries().clear()
        self.follower.letters(1).clear()
        self.assertEqual((self.follower.entries(), len(self.follower.letters(1))), (MAPS[1], 2))


if __name__ == "__main__":
    unittest.main()
