from random import Random
import re
import unittest

from heldpasts.errors import InvalidChanges, InvalidName, InvalidSigns, InvalidText
from heldpasts.holds import changing_names, held_names, hold_marks, hold_text, hold_told, holds_told
from heldpasts.tree import entry_room
from tests.helpers import WRONG_INTEGERS, WRONG_TEXTS, Case, exchanged
from tests.stores import fresh_store
from tests.test_store import WRONG_CHANGES

HOLD = ((("a", "x"), ("b", None)), ((None, "c"),))
HOLDS = [HOLD, ((("", ""),), ()), ((("k" * 60, "v" * 60), ("l", None)), (("a", None), ("", ""), (None, None))),
         ((("+0001", "-"),), (("-", "+0001a"),)), ((("a", None),), (("a", "b"), ("a", "b")))]
WRONG_NAMES = (None, True, 0, "", "A", "a1", "a b", "abcdefghi", "\u00e4", "a\n", ("a",), ["a"], {}, ".", "a-")


def told_again(text):
    """What hold_told tells, read by regular expressions."""
    head = re.match("[0-9]{6}", text)
    if not head or len(text) < 6 + int(head[0]):
        return None
    inner, rest = text[6:6 + int(head[0])], text[6 + int(head[0]):]
    changes, bounds = [], []
    for part, found in ((inner, changes), (rest, bounds)):
        while part:
            key = None
            if part[0] == "-" and found is bounds:
                found.append(None)
                part = part[1:]
                continue
            size = re.match("[+-]([0-9]{4})", part)
            key = size and re.match("([ -~]{%d})" % int(size[1]), part[5:])
            if not key:
                return None
            sign, part = part[0], part[5 + len(key[1]):]
            if found is bounds:
                found.append(key[1])
                continue
            value = None
            if sign == "+":
                size = re.match("[0-9]{4}", part)
                value = size and re.match("([ -~]{%d})" % int(size[0]), part[4:])
                if not value:
                    return None
                value, part = value[1], part[4 + int(size[0]):]
            found.append((key[1], value))
    keys = [key for key, _ in changes]
    if not keys or keys != sorted(set(keys)) or len(bounds) % 2:
        return None
    return tuple(changes), tuple(zip(bounds[::2], bounds[1::2]))


class TextTest(Case):
    def test_example(self):
        self.assertEqual(hold_text(HOLD), "000017+0001a0001x-0001b-+0001c")
        self.assertEqual(hold_text(hold=HOLDS[1]), "000009+00000000")
        self.assertEqual(hold_text(HOLDS[4]), "000006-0001a+0001a+0001b+0001a+0001b")

    def test_both_ways(self):
        for hold in HOLDS:
            self.assertEqual(hold_told(text=hold_text(hold)), hold)

    def test_texts_near_to_it(self):
        for text in ("", "000000", "000000--", "000005+0001", "000017+0001a0001x-0001b-", "000012-0001b-0001a",
                     "000012-0001a-0001a", "00006-0001a", "000006-0001a-", "000006-0001a---", "000006-0001a-0001b"):
            self.assertEqual(hold_told(text), None, text)
        for hold in HOLDS[:2] + HOLDS[3:]:
            text = hold_text(hold)
            for other in exchanged(text, "01+-a "):
                told = hold_told(other)
                self.assertEqual(told, told_again(other), other)
                if told is not None:
                    self.assertEqual(hold_text(told), other)

    def test_values_of_other_kinds(self):
        self.refused_each(InvalidText, hold_told, WRONG_TEXTS)


class MarksTest(Case):
    def test_example(self):
        self.assertEqual(hold_marks("ab", HOLD, 100),
                         ((".ab000", "000017+000"), (".ab001", "1a0001x-00"), (".ab002", "01b-+0001c")))

    def test_one_part_and_several(self):
        for name in ("a", "abcdefgh"):
            for signs in (100, 200, 1000):
                size = entry_room(signs) - 6 - len(name)
                for length in range(1, 2 * size):
                    hold = ((("", "x" * length),), ())
                    text = hold_text(hold)
                    marks = hold_marks(name=name, hold=hold, signs=signs)
                    self.assertEqual("".join(part for _, part in marks), text)
                    self.assertTrue(all(len(part) == size for _, part in marks[:-1]))
                    self.assertTrue(1 <= len(marks[-1][1]) <= size)
                    self.assertEqual([mark for mark, _ in marks],
                                     [f".{name}{place:03d}" for place in range(-(-len(text) // size))])
                    self.assertEqual(holds_told(marks), {name: hold})

    def test_the_parts_just_have_room(self):
        store = fresh_store(pages=60, log_blocks=20, signs=200)
        marks = hold_marks("abcdefgh", HOLDS[2], 200)
        store.add((), marks, False)
        self.assertEqual(holds_told(store.marks()), {"abcdefgh": HOLDS[2]})
        self.assertEqual(max(len(mark) + 2 + len(part) for mark, part in marks), entry_room(200))

    def test_thousand_marks(self):
        hold = (tuple((f"k{at:03d}", "x" * 9) for at in range(600)), (("a", "b" * 100),))
        marks = hold_marks("a", hold, 100)
        self.assertGreater(len(marks), 999)
        self.assertEqual(holds_told(tuple(sorted(marks[:1000]))), {})
        # No mark has four digits: the thousand and first part is none.
        text = hold_text(HOLD)
        parts = [""] * (1000 - len(text)) + list(text)
        marks = {f".a{place:03d}": part for place, part in enumerate(parts + ["x"])}
        self.assertEqual(len(marks), 1001)
        self.assertEqual(holds_told(tuple(sorted(marks.items()))), {"a": HOLD})
        fitting = (hold[0][:450], ())
        self.assertEqual(holds_told(hold_marks("a", fitting, 100)), {"a": fitting})

    def test_errors(self):
        for name in WRONG_NAMES:
            self.refused(InvalidName, hold_marks, name, HOLD, 100)
            self.refused(InvalidName, hold_marks, name, HOLD, 99)
        for signs in WRONG_INTEGERS + (99, 1001):
            self.refused(InvalidSigns, hold_marks, "a", HOLD, signs)


class ToldTest(Case):
    def test_marks_of_several_names(self):
        marks = hold_marks("ab", HOLDS[0], 100) + hold_marks("abc", HOLDS[1], 100) + hold_marks("b", HOLDS[3], 100)
        others = (("", "x"), ("0", "000006-0001a"), ("=", "00000001"), ("ab000", "000006-0001a"))
        told = {"ab": HOLDS[0], "abc": HOLDS[1], "b": HOLDS[3]}
        self.assertEqual(holds_told(tuple(sorted(marks + others))), told)
        self.assertEqual(holds_told(marks=()), {})
        self.assertEqual(list(holds_told(tuple(sorted(marks)))), ["ab", "abc", "b"])

    def test_marks_that_are_missing(self):
        marks = hold_marks("ab", HOLDS[0], 100)
        for gone in range(3):
            self.assertEqual(holds_told(marks[:gone] + marks[gone + 1:]), {})
            self.assertEqual(holds_told(marks[:gone] + ((marks[gone][0], None),) + marks[gone + 1:]), {})
        # What comes behind a missing one does not count.
        self.assertEqual(holds_told(marks + ((".ab004", "x"),)), {"ab": HOLDS[0]})
        self.assertEqual(holds_told(marks + ((".ab003", None), (".ab004", "x"))), {"ab": HOLDS[0]})
        self.assertEqual(holds_told(marks + ((".ab003", "x"),)), {})
        self.assertEqual(holds_told(marks + ((".ab003", "--"),)), {"ab": (HOLDS[0][0], ((None, "c"), (None, None)))})

    def test_parts_of_any_size(self):
        text = hold_text(HOLD)
        for cuts in ((0,), (1, 1), (5, 20), (6, 6, 7), (len(text),)):
            ends = (0,) + cuts + (len(text),)
            marks = tuple((f".ab{at:03d}", text[ends[at]:ends[at + 1]]) for at in range(len(cuts) + 1))
            self.assertEqual(holds_told(marks), {"ab": HOLD})

    def test_other_names(self):
        text = hold_text(HOLD)
        for mark in ("ab000", ".ab00", ".ab0000", ".000", ".AB000", ".abcdefghi000", ".a b000", ".a1000", "..ab000",
                     ".ab001", ".ab", "", ".", ".ab 000", ".ab000 ", ",ab000"):
            self.assertEqual(holds_told(((mark, text),)), {}, mark)
        self.assertEqual(holds_told(((".abcdefgh000", text),)), {"abcdefgh": HOLD})

    def test_errors(self):
        self.refused_each(InvalidChanges, holds_told, WRONG_CHANGES)
        # Doubled, and not ascending.
        self.refused(InvalidChanges, holds_told, hold_marks("a", HOLDS[1], 100) * 2)
        self.refused(InvalidChanges, holds_told, hold_marks("ab", HOLD, 100)[::-1])

    def test_lists_are_new(self):
        marks = hold_marks("ab", HOLD, 100)
        holds_told(marks).clear()
        self.assertEqual(holds_told(marks), {"ab": HOLD})


class NamesTest(Case):
    def test_held_names(self):
        holds = {"c": HOLD, "b": ((("z", "1"),), (("k", "m"), ("p", None))), "a": ((("k", None),), ())}
        told = {"": "c", "a": "c", "b": "c", "c": "", "d": "", "k": "ab", "kk": "b", "l": "b", "m": "", "o": "",
                "p": "b", "z": "b"}
        for key, names in told.items():
            for value in (None, "x"):
                self.assertEqual(held_names(holds, ((key, value),)), tuple(names))
        self.assertEqual(held_names(holds=holds, changes=(("a", "1"), ("z", None))), ("b", "c"))
        self.assertEqual(held_names(holds, ()), ())
        self.assertEqual(held_names({}, (("a", "1"),)), ())

    def test_changing_names(self):
        holds = {"c": HOLD, "b": ((("k", "1"), ("z", "1")), (("a", None),)), "a": ((("k", None),), ())}
        self.assertEqual(changing_names(holds, ()), ())
        self.assertEqual(changing_names(holds=holds, guards=((None, None),)), ("a", "b", "c"))
        self.assertEqual(changing_names(holds, (("a", "b"),)), ("c",))
        self.assertEqual(changing_names(holds, (("aa", "b"), ("c", "k"))), ())
        self.assertEqual(changing_names(holds, (("aa", "b"), ("k", "ka"))), ("a", "b"))
        self.assertEqual(changing_names(holds, (("z", None),)), ("b",))
        self.assertEqual(changing_names(holds, (("k", "a"),)), ())

    def test_by_the_words(self):
        def inside(key, guards):
            return any((low is None or low <= key) and (high is None or key < high) for low, high in guards)

        bounds = (None, "a", "b", "bb", "c", "d")
        for seed in range(400):
            chance = Random(seed)
            lots = []
            for _ in range(4):
                keys = sorted(chance.sample("abcd", chance.randrange(1, 4)))
                guards = tuple((chance.choice(bounds), chance.choice(bounds)) for _ in range(chance.randrange(3)))
                lots.append((tuple((key, None) for key in keys), guards))
            holds = dict(zip("pqr", lots))
            changes, guards = lots[3]
            self.assertEqual(held_names(holds, changes),
                             tuple(name for name in "pqr" if any(key in dict(holds[name][0])
                                                                 or inside(key, holds[name][1]) for key, _ in changes)))
            self.assertEqual(changing_names(holds, guards),
                             tuple(name for name in "pqr" if any(inside(key, guards) for key, _ in holds[name][0])))

    def test_errors(self):
        self.refused_each(InvalidChanges, held_names, WRONG_CHANGES, {"a": HOLD})


if __name__ == "__main__":
    unittest.main()
