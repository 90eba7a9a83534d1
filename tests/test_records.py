from random import Random
import re
import unittest

from heldpasts.records import deed_text, is_changes, record_told, window_text
from tests.helpers import WRONG_TEXTS, Case, exchanged

CHANGES = (("", "x"), ("a", None), ("b c", ""), ("b d", "~+-0"))
MARKS = (("=", "t"), ("n", None))


def told_again(text):
    """What record_told tells, read by regular expressions."""
    window = re.fullmatch("W([0-9]{8})", text)
    if window:
        return ("W", int(window[1]))
    head = re.match("([CM])([0-9]{4})", text)
    if not head:
        return None
    rest, found = text[5:], []
    while rest:
        sizes = re.match("[+-]([0-9]{4})", rest)
        key = sizes and re.match("([ -~]{%d})" % int(sizes[1]), rest[5:])
        if not key:
            return None
        sign, rest, value = rest[0], rest[5 + len(key[1]):], None
        if sign == "+":
            size = re.match("[0-9]{4}", rest)
            if not size or len(rest) < 4 + int(size[0]):
                return None
            value, rest = rest[4:4 + int(size[0])], rest[4 + int(size[0]):]
        found.append((key[1], value))
    many = int(head[2])
    if many > len(found) or head[1] == "M" and many:
        return None
    for part in (found[:many], found[many:]):
        keys = [key for key, _ in part]
        if keys != sorted(set(keys)):
            return None
    return (head[1], tuple(found[:many]), tuple(found[many:]))


class RecordsTest(Case):
    def test_deed_text(self):
        self.assertEqual(deed_text("C", (("a", "x"), ("b", None)), ()), "C0002+0001a0001x-0001b")
        self.assertEqual(deed_text(kind="C", changes=(), marks=()), "C0000")
        self.assertEqual(deed_text("M", (), (("n", "t"),)), "M0000+0001n0001t")
        self.assertEqual(deed_text("C", CHANGES, MARKS),
                         "C0004+00000001x-0001a+0003b c0000+0003b d0004~+-0+0001=0001t-0001n")
        self.assertEqual(deed_text("C", (("k" * 1234, "v" * 56),), ()), "C0001+1234" + "k" * 1234 + "0056" + "v" * 56)

    def test_window_text(self):
        self.assertEqual(window_text(0), "W00000000")
        self.assertEqual(window_text(least=12345678), "W12345678")

    def test_record_told(self):
        for changes in ((), CHANGES, CHANGES[1:2], tuple((f"{at:04d}", str(at)) for at in range(1000))):
            for marks in ((), MARKS, MARKS[1:]):
                self.assertEqual(record_told(deed_text("C", changes, marks)), ("C", changes, marks))
                self.assertEqual(record_told(text=deed_text("M", (), marks)), ("M", (), marks))
        long = (("k" * 9999, "v" * 9999),)
        self.assertEqual(record_told(deed_text("C", long, long)), ("C", long, long))
        for least in (0, 7, 99999999):
            self.assertEqual(record_told(window_text(least)), ("W", least))
        # Keys and values that look like parts of a record.
        odd = (("+0001a0001x", "-0001b"), ("C0000", "W00000000"))
        self.assertEqual(record_told(deed_text("C", odd, odd)), ("C", odd, odd))

    def test_changes_and_marks_are_parted_by_the_number(self):
        text = "C000{}+0001a0001x+0001b0001y"
        both = (("a", "x"), ("b", "y"))
        self.assertEqual(record_told(text.format(0)), ("C", (), both))
        self.assertEqual(record_told(text.format(1)), ("C", both[:1], both[1:]))
        self.assertEqual(record_told(text.format(2)), ("C", both, ()))
        self.assertIsNone(record_told(text.format(3)))
        # Each of them ascends by itself.
        self.assertEqual(record_told("C0001-0001b-0001a"), ("C", (("b", None),), (("a", None),)))
        self.assertEqual(record_told("C0001-0001a-0001a"), ("C", (("a", None),), (("a", None),)))

    def test_texts_that_are_no_records(self):
        texts = ["", "C", "M", "W", "C000", "W0000000", "W000000000", "W0000000x", "W 0000000", "c0000", "X0000",
                 "C 000", "C-001",
                 "M0001-0001a", "M0001", "C0001", "C0000x", "C0000+", "C0000-", "C0000-0001", "C0000-0002a",
                 "C0000+0001a",
                 "C0000+0001a0002x", "C0000+0001a001x", "C0000*0001a0001x", "C0000 0001a", "C0000-0001a0",
                 "C0000-0001a0001x"]
        texts += ["C0002-0001b-0001a", "C0002-0001a-0001a", "C0002+0001a0001x-0001a", "C0000-0001b-0001a",
                  "M0000-0001a-0001a",
                  "C0001-0001a-0001c-0001b", "C0000-0001a+0001a0001x"]
        for text in texts:
            self.assertIsNone(record_told(text), text)
        for value in WRONG_TEXTS:
            self.assertIsNone(record_told(value))

    def test_texts_near_to_records(self):
        texts = [deed_text("C", CHANGES[:2], MARKS[:1]), deed_text("C", (("a", "x"), ("b", None)), ()),
                 window_text(120),
                 deed_text("M", (), MARKS), deed_text("C", (("ab", "cd"),), (("a", ""),))]
        for text in texts:
            self.assertEqual(record_told(text), told_again(text))
            for other in exchanged(text, "012CMWab+-x "):
                told = record_told(other)
                self.assertEqual(told, told_again(other), other)
                if told is not None:
                    self.assertEqual(window_text(told[1]) if told[0] == "W" else deed_text(*told), other)

    def test_records_by_chance(self):
        for seed in range(300):
            chance = Random(seed)
            lots = []
            for _ in range(2):
                keys = sorted({chance.choice("ab+-0") * chance.randrange(4) for _ in range(chance.randrange(5))})
                lots.append(tuple((key, chance.choice((None, "", "+0001", "x"))) for key in keys))
            self.assertEqual(record_told(deed_text("C", *lots)), ("C", lots[0], lots[1]))


class ChangesTest(Case):
    def test_changes(self):
        for value in ((), CHANGES, MARKS, (("", None),), (("a", "x"), ("a ", "x")), (("a" * 20000, "b" * 20000),)):
            self.assertIs(is_changes(value=value), True)

    def test_any_other_value(self):
        values = [None, True, False, 0, 10 ** 89, "", "ab", [], {}, [("a", "x")], (("a",),), ("a", "x"), (["a", "x"],),
                  ((),),
                  (("a", "x", "y"),), (("a", 1),), (("a", True),), (("a", ("x",)),), ((1, "x"),), ((None, "x"),),
                  ((True, None),),
                  (("a", "x"), ("a", "y")), (("a", "x"), ("a", None)), (("a", None), ("a", None)),
                  (("b", "x"), ("a", "x")),
                  (("a", "x"), ("c", "x"), ("b", "x")), (("a", "x"), None), (("a", "x"), "b"), (None,), ("",), ("ab",),
                  (("a\n", "x"),), (("a", "x\x7f"),), (("a", "\t"),), ((("a",), "x"),), ({},), (("a", {}),)]
        deep = ()
        for _ in range(40):
            deep = (deep,)
        for value in values + [deep]:
            self.assertIs(is_changes(value), False, value)


if __name__ == "__main__":
    unittest.main()
