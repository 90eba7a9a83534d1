from random import Random
import unittest

from heldpasts.batches import standing
from heldpasts.disk import Disk
from heldpasts.errors import InvalidCount, InvalidIndex, InvalidLetter, InvalidNumber, InvalidText, TooOld
from heldpasts.feeds import copy_letter, copy_letters, feed, is_letter, letter_text, letter_told, letters_from
from heldpasts.store import Store
from tests.helpers import WRONG_INTEGERS, WRONG_TEXTS, Case, exchanged
from tests.stores import changes_by_chance, fresh_store
from tests.test_store import state_of

LONG = "x" * 9999
LETTERS = (
    (("none",), "N"),
    (("part", 3, (("a", "x"), ("b", None))), "P00000003+0001a0001x-0001b"),
    (("part", 1, ()), "P00000001"),
    (("part", 99999999, (("", ""), (" !", "~"))), "P99999999+00000000+0002 !0001~"),
    (("part", 7, ((LONG, LONG),)), "P00000007+9999" + LONG + "9999" + LONG),
    (("piece", 2, 0, 1, ()), "S0000000200000001"),
    (("piece", 0, 9998, 9999, (("a", ""), ("b", "y"))), "S0000000099989999+0001a0000+0001b0001y"),
    (("piece", 99999999, 3, 40, ((LONG, ""),)), "S9999999900030040+9999" + LONG + "0000"))
NO_LETTERS = (
    None, True, False, 0, "", "N", "none", [], {}, (), ("none", 1), ("none", ()), ["none"], ("None",), (None,), (("none",),),
    ("part",), ("part", 3), ("part", 3, (), ()), ["part", 3, ()], ("part", 0, ()), ("part", 10 ** 8, ()),
    ("part", True, ()), ("part", "3", ()), ("part", None, ()), ("part", -1, ()), ("part", 3, None), ("part", 3, []),
    ("part", 3, (("b", "x"), ("a", "x"))), ("part", 3, (("a", "x"), ("a", None))), ("part", 3, (("a", 1),)),
    ("part", 3, (("a",),)), ("part", 3, (["a", "x"],)), ("part", 3, (("\n", "x"),)), ("part", 3, ((LONG + "x", ""),)),
    ("part", 3, (("a", LONG + "x"),)), ("part", 3, ((LONG + "x", None),)),
    ("piece",), ("piece", 2, 0, 1), ("piece", 2, 0, 1, (), ()), ["piece", 2, 0, 1, ()], ("piece", -1, 0, 1, ()),
    ("piece", 10 ** 8, 0, 1, ()), ("piece", False, 0, 1, ()), ("piece", None, 0, 1, ()), ("piece", 2, -1, 1, ()),
    ("piece", 2, 1, 1, ()), ("piece", 2, False, 1, ()), ("piece", 2, None, 1, ()), ("piece", 2, 0, 0, ()),
    ("piece", 2, 0, 10000, ()), ("piece", 2, 0, True, ()), ("piece", 2, 0, None, ()), ("piece", 2, 0, 1, None),
    ("piece", 2, 0, 1, []), ("piece", 2, 0, 1, (("a", None),)), ("piece", 2, 0, 1, (("b", ""), ("a", ""))),
    ("piece", 2, 0, 1, (("a", LONG + "x"),)), ("piece", 2, 0, 1, ((LONG + "x", ""),)), ("letter", 1, ()),
    ("letter", 2, 0, 1, ()), (None, 2, 0, 1, ()), ("Piece", 2, 0, 1, ()))
NO_TEXTS = ("", "n", "NN", "N ", "P", "P0000000", "P00000000", "P00000003 ", "P0000003+", "P 0000003", "P+0000003",
            "P00000003+0001b0001x-0001a", "P00000003+0001a0001x-0001a", "P00000003-0001a0001", "S", "S000000020000",
            "S000000020000000", "S0000000200000000", "S0000000200010001", "S0000000200000001-0001a",
            "S0000000200000001+0001b0000+0001a0000", "S0000000200000001+0001a", "Q00000003", "M0000", "C0000",
            "P00000003+00 1a0001x", "P00000003+0001a0002x")


class LetterTest(Case):
    def test_examples(self):
        self.assertEqual(letter_text(("part", 3, (("a", "x"), ("b", None)))), "P00000003+0001a0001x-0001b")
        self.assertEqual(letter_told("S0000000200000001"), ("piece", 2, 0, 1, ()))
        self.refused(InvalidLetter, letter_told, "P00000000")

    def test_both_ways(self):
        for letter, text in LETTERS:
            self.assertIs(is_letter(value=letter), True)
            self.assertEqual(letter_text(letter=letter), text)
            self.assertEqual(letter_told(text=text), letter)

    def test_what_is_no_letter(self):
        for value in NO_LETTERS:
            with self.subTest(value=str(value)[:80]):
                self.assertIs(is_letter(value), False)
                self.refused(InvalidLetter, letter_text, value)

    def test_what_is_no_text_of_a_letter(self):
        self.refused_each(InvalidText, letter_told, WRONG_TEXTS)
        self.refused_each(InvalidLetter, letter_told, NO_TEXTS)

    def test_texts_near_to_letters(self):
        """Each text tells a letter with just this text, or none."""
        told = 0
        for letter, text in LETTERS:
            for near in exchanged(text, "0129+-NPSa ") if len(text) < 99 else ():
                try:
                    found = letter_told(near)
                except InvalidLetter:
                    continue
                told += 1
                self.assertTrue(is_letter(found))
                self.assertEqual(letter_text(found), near)
        self.assertGreater(told, 200)

    def test_by_chance(self):
        chance = Random(1)
        for _ in range(500):
            changes = changes_by_chance(chance, 9)
            entries = tuple(change for change in changes if change[1] is not None)
            pieces = chance.choice((1, 2, 9, 9999))
            for letter in (("part", chance.randrange(1, 10 ** 8), changes),
                           ("piece", chance.randrange(10 ** 8), chance.randrange(pieces), pieces, entries)):
                self.assertEqual(letter_told(letter_text(letter)), letter)

    def test_long_texts(self):
        letter = ("part", 5, tuple((f"{at:04d}", "y" * 9000) for at in range(60)))
        self.assertEqual(letter_told(letter_text(letter)), letter)


class FeedCase(Case):
    def setUp(self):
        self.store = fresh_store()
        self.commits = [(("a", "1"), ("b", "1"), ("c", "1")), (), (("a", None), ("x", None)), (("b", "1"), ("d", "4")),
                        (("d", "4"),)]
        for changes in self.commits[:4]:
            self.store.add(changes)
        self.store.sync()
        # This one may be taken by a cut.
        self.store.add(self.commits[4], (("m", "n"),))

    def unchanged(self, kind, call, *members, **names):
        before = state_of(self.store)
        error = self.refused(kind, call, *members, **names)
        self.assertEqual(state_of(self.store), before)
        return error

    def numbers(self, kind=InvalidNumber, wrong=WRONG_INTEGERS + (-1, 5, 6, 10 ** 80), size=(2,)):
        for number in wrong:
            self.unchanged(kind, feed, self.store, number)
            self.unchanged(kind, copy_letter, self.store, number, 2, 0)
            self.unchanged(kind, copy_letters, self.store, number, 2)
            self.unchanged(kind, letters_from, self.store, number)


class FeedTest(FeedCase):
    def test_feed(self):
        whole = [(at + 1, changes) for at, changes in enumerate(self.commits[:4])]
        for number in range(5):
            self.assertEqual(feed(self.store, number), whole[number:])
        self.store.sync()
        self.assertEqual(feed(store=self.store, number=3), whole[3:] + [(5, self.commits[4])])
        self.assertEqual(feed(self.store, 5), [])
        feed(self.store, 0).clear()
        # A checkpoint and an opening change nothing.
        self.store.checkpoint()
        self.assertEqual(feed(self.store, 0), whole + [(5, self.commits[4])])
        self.assertEqual(feed(Store(Disk(self.store.disk.image, 200)), 0), whole + [(5, self.commits[4])])

    def test_numbers(self):
        self.numbers()
        self.store.sync()
        self.assertEqual(feed(self.store, 5), [])
        self.numbers(wrong=(-1, 6))

    def test_too_old(self):
        self.store.forget(3)
        self.assertEqual(feed(self.store, 3), [(4, self.commits[3]), (5, self.commits[4])])
        for number in (0, 1, 2):
            self.assertEqual(self.unchanged(TooOld, feed, self.store, number).past, 3)
            self.assertEqual(self.unchanged(TooOld, copy_letter, self.store, number, 1, 0).past, 3)
            self.assertEqual(self.unchanged(TooOld, copy_letters, self.store, number, 1).past, 3)
            self.assertEqual(self.unchanged(TooOld, letters_from, self.store, number).past, 3)
            # Behind all other errors.
            for pieces, index, kind in ((0, 0, InvalidCount), (10000, None, InvalidCount), (2, 2, InvalidIndex)):
                self.unchanged(kind, copy_letter, self.store, number, pieces, index)
            self.unchanged(InvalidCount, copy_letters, self.store, number, 0)
            self.unchanged(InvalidCount, letters_from, self.store, number, 0)
        self.numbers(wrong=(-1, 6, None))

    def test_by_chance(self):
        """As they were added, whatever is laid into the tree and let go."""
        for seed in range(60):
            chance = Random(seed)
            store, commits = fresh_store(120, 6), []
            for _ in range(30):
                word = chance.randrange(8)
                if word == 0:
                    store.checkpoint()
                elif word == 1:
                    store.forget(chance.randrange(store.least, store.number + 1))
                elif word == 2:
                    store.sync()
                else:
                    commits.append(changes_by_chance(chance, 5))
                    store.add(commits[-1])
                newest = standing(store)
                for number in range(newest + 1):
                    if number < store.least:
                        self.assertEqual(self.refused(TooOld, feed, store, number).past, store.least)
                    else:
                        self.assertEqual(feed(store, number), list(enumerate(commits[:newest], 1))[number:])


class CopyTest(FeedCase):
    def test_pieces_of_a_past(self):
        entries = [(("a", "1"), ("b", "1"), ("c", "1")), (("a", "1"), ("b", "1"), ("c", "1")), (("b", "1"), ("c", "1")),
                   (("b", "1"), ("c", "1"), ("d", "4"))]
        for number, own in enumerate(((),) + tuple(entries)):
            for pieces in (1, 2, 3, 4, 5, 9999):
                parts = ()
                for index in range(min(pieces, 9)):
                    told = copy_letter(store=self.store, number=number, pieces=pieces, index=index)
                    part = own[index * len(own) // pieces:(index + 1) * len(own) // pieces]
                    self.assertEqual(told, ("piece", number, index, pieces, part))
                    self.assertTrue(is_letter(told))
                    parts += part
                self.assertTrue(parts == own or pieces == 9999)
        self.assertEqual(copy_letter(self.store, 4, 9999, 9998), ("piece", 4, 9998, 9999, (("d", "4"),)))

    def test_pieces_and_index(self):
        for pieces in WRONG_INTEGERS + (0, -1, 10000, 10 ** 80):
            for index in (0, -1, None):
                self.unchanged(InvalidCount, copy_letter, self.store, 1, pieces, index)
            self.unchanged(InvalidNumber, copy_letter, self.store, 5, pieces, 0)
        for index in WRONG_INTEGERS + (-1, 3, 4, 10 ** 80):
            self.unchanged(InvalidIndex, copy_letter, self.store, 1, 3, index)
            self.unchanged(InvalidNumber, copy_letter, self.store, None, 3, index)

    def test_copy_letters(self):
        for number, many in ((0, 0), (1, 3), (2, 3), (3, 2), (4, 3)):
            for size in (1, 2, 3, 4, 700, 10 ** 89):
                letters = copy_letters(store=self.store, number=number, size=size)
                self.assertEqual([letter[:4] for letter in letters],
                                 [("piece", number, index, len(letters)) for index in range(len(letters))])
                self.assertEqual(sum((letter[4] for letter in letters), ()),
                                 tuple(self.store.entries(None, None, number)))
                self.assertEqual(len(letters), max(1, -(-many // size)))
                self.assertLessEqual(max(len(letter[4]) for letter in letters), size)

    def test_as_few_as_can_be(self):
        store = fresh_store(120, 20, 1000)
        for many in range(1, 26):
            store.add(((f"k{many:02d}", "x"),))
            store.sync()
            for size in range(1, 30):
                fewest = min(pieces for pieces in range(1, 30) if max(
                    (at + 1) * many // pieces - at * many // pieces for at in range(pieces)) <= size)
                self.assertEqual(len(copy_letters(store, many, size)), fewest)

    def test_sizes(self):
        for size in WRONG_INTEGERS + (0, -1, -10 ** 80):
            self.unchanged(InvalidCount, copy_letters, self.store, 1, size)
            self.unchanged(InvalidNumber, copy_letters, self.store, 5, size)
            if size is not None:
                self.unchanged(InvalidCount, letters_from, self.store, 1, size)
                self.unchanged(InvalidCount, letters_from, self.store, 4, size)
                self.unchanged(InvalidNumber, letters_from, self.store, 5, size)

    def test_letters_from(self):
        whole = [("part", at + 1, changes) for at, changes in enumerate(self.commits[:4])]
        for number in range(4):
            self.assertEqual(letters_from(self.store, number), whole[number:])
            self.assertEqual(letters_from(store=self.store, number=number, size=1), whole[number:])
        self.assertEqual((letters_from(self.store, 4), letters_from(self.store, 4, 1)), ([("none",)], [("none",)]))
        self.store.forget(2)
        for number in (0, 1):
            self.assertEqual(letters_from(self.store, number, 2), copy_letters(self.store, 5, 2))
        self.assertEqual([letter[1] for letter in letters_from(self.store, 2, 2)], [3, 4, 5])
        self.assertEqual(letters_from(self.store, 5, 2), [("none",)])
        # The newest past that stands, not the newest one.
        self.store.add((("z", "1"),))
        self.assertEqual(letters_from(self.store, 0, 9), [("piece", 5, 0, 1, (("b", "1"), ("c", "1"), ("d", "4")))])

    def test_a_fresh_store(self):
        store = fresh_store()
        self.assertEqual((feed(store, 0), letters_from(store, 0), letters_from(store, 0, 5)), ([], [("none",)],
                                                                                              [("none",)]))
        self.assertEqual(copy_letters(store, 0, 5), [("piece", 0, 0, 1, ())])


if __name__ == "__main__":
    unittest.main()
