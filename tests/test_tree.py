from random import Random
import re
import unittest

from heldpasts.errors import PowerCut
from heldpasts.tree import depth, entries_of, entry_room, last_to, node_text, node_told, value_at
from heldpasts.tree_deeds import bulk
from tests.helpers import Case, exchanged
from tests.trees import fresh_pages, leaf, on_pages, tree_by_chance

LEAF = ("leaf", (("a", "xy"), ("b", "")))
INNER = ("inner", ("m", ""), (3, 0, 9999))
# Marks that are less than all keys behind them, as they stay when keys go.
LOOSE = ("inner", ("c", "m"), (leaf("a", "b"), leaf("f", "g"), leaf("p", "q", "s", "t")))


def told_again(text):
    """What node_told tells, read by regular expressions."""
    if text[:1] == "L":
        rest, entries = text[1:], []
        while rest:
            sizes = re.match("([0-9]{3})([0-9]{3})", rest)
            if not sizes:
                return None
            key, value = int(sizes[1]), int(sizes[2])
            found = re.match("([ -~]{%d})([ -~]{%d})" % (key, value), rest[6:])
            if not found:
                return None
            entries.append((found[1], found[2]))
            rest = rest[6 + key + value:]
        return ("leaf", tuple(entries))
    many = re.match("I([1-9])", text)
    kids = many and re.match("I.(([0-9]{4}){%s})" % many[1], text)
    if not kids:
        return None
    rest, marks = text[kids.end():], []
    for _ in range(int(many[1]) - 1):
        size = re.match("[0-9]{3}", rest)
        if not size or len(rest) < 3 + int(size[0]):
            return None
        marks.append(rest[3:3 + int(size[0])])
        rest = rest[3 + int(size[0]):]
    return None if rest else ("inner", tuple(marks), tuple(int(kid) for kid in re.findall("....", kids[1])))


class NodeTest(Case):
    def test_entry_room(self):
        self.assertEqual([entry_room(signs) for signs in (100, 101, 104, 105, 200, 1000)], [18, 19, 19, 20, 43, 243])
        self.assertEqual(entry_room(signs=300), 68)

    def test_four_full_entries_fit_a_block(self):
        for signs in range(100, 1001):
            room = entry_room(signs)
            node = ("leaf", (("k" * room, ""), ("k", "v" * (room - 1)), ("", "v" * room), ("k" * room, "")))
            self.assertLessEqual(len(node_text(node)), signs)
            self.assertLessEqual(len(node_text(("inner", ("k" * room,) * 3, (1, 2, 3, 4)))), signs)

    def test_node_text(self):
        self.assertEqual(node_text(LEAF), "L001002axy001000b")
        self.assertEqual(node_text(INNER), "I3000300009999001m000")
        self.assertEqual(node_text(node=("leaf", ())), "L")
        self.assertEqual(node_text(("inner", (), (7,))), "I10007")
        self.assertEqual(node_text(("inner", ("0" * 12,), (0, 1))), "I200000001012" + "0" * 12)
        self.assertEqual(node_text(("leaf", (("k" * 123, "v" * 45),))), "L123045" + "k" * 123 + "v" * 45)

    def test_node_told(self):
        nodes = [LEAF, INNER, ("leaf", ()), ("inner", (), (7,)), ("leaf", (("", ""),)),
                 ("leaf", (("b", "1"), ("a", "2"))),
                 ("leaf", (("a", "1"),) * 40), ("leaf", (("k" * 999, "v" * 999),) * 3), ("leaf", (("001", "002a"),)),
                 ("inner", ("z", "a", "a"), (1, 1, 1, 2)), ("inner", tuple("abcdefgh"), tuple(range(9))),
                 ("inner", ("m" * 999,) * 8, (5,) * 9)]
        for node in nodes:
            self.assertEqual(node_told(node_text(node)), node)
        self.assertEqual(node_told(text="L001002axy001000b"), LEAF)

    def test_texts_near_to_nodes(self):
        self.assertEqual(told_again(node_text(INNER)), INNER)
        for node in (LEAF, INNER, ("inner", ("ab", "c"), (1, 2, 3)), ("leaf", (("0010", "1"), ("00", "x"))),
                     ("leaf", ())):
            for text in exchanged(node_text(node), "0129LI x-"):
                told = node_told(text)
                self.assertEqual(told, told_again(text), text)
                if told is not None:
                    self.assertEqual(node_text(told), text)

    def test_other_texts(self):
        for text in ("", "x", "l", "I", "I0", "I00000", "I1", "I1000", "I1 001", "I2000000010", "L0", "L001",
                     "L001001a",
                     "L+01000a", "L 1 0a", "L001 00a", "H000003000001000500000012000000040009", " L", "I1000a"):
            self.assertIsNone(node_told(text), text)


class TellingTest(Case):
    def check_tree(self, pages, tree, plain):
        entries = sorted(plain.items())
        bounds = sorted(set(list(plain)[:12] + ["", "k", "k5", "zz", "k1 "]))
        for key in bounds + list(plain):
            self.assertEqual(value_at(pages, tree, key), plain.get(key))
            below = [entry for entry in entries if entry[0] <= key]
            self.assertEqual(last_to(pages, tree, key), below[-1] if below else None)
        for low in [None] + bounds:
            for high in [None] + bounds:
                told = [(key, value) for key, value in entries
                        if (low is None or low <= key) and (high is None or key < high)]
                self.assertEqual(entries_of(pages, tree, low, high), told)

    def test_none(self):
        pages = fresh_pages()
        self.check_tree(pages, None, {})
        self.assertEqual(depth(pages, None), 0)

    def test_none_needs_no_power(self):
        pages = fresh_pages(steps=0)
        self.refused(PowerCut, pages.disk.flush)
        self.assertEqual((value_at(pages, None, "a"), depth(pages, None), entries_of(pages, None, None, None)),
                         (None, 0, []))
        self.assertEqual((depth(pages, LOOSE), value_at(pages, LOOSE, "f")), (2, "F"))
        self.refused(PowerCut, value_at, pages, 3, "a")

    def test_a_leaf(self):
        pages = fresh_pages()
        one = leaf("d", "b")[1]
        for tree in (("leaf", one[1:]), on_pages(pages, ("leaf", one[1:]))):
            self.check_tree(pages, tree, {"b": "B"})
            self.assertEqual(depth(pages, tree), 1)
        self.assertEqual(last_to(pages, leaf("a", "b", "c", "d"), "bb"), ("b", "B"))

    def test_marks_that_no_key_equals(self):
        pages = fresh_pages()
        plain = {key: key.upper() for key in "abfgpqst"}
        for tree in (LOOSE, on_pages(pages, LOOSE)):
            self.check_tree(pages, tree, {**plain})
            self.assertEqual(last_to(pages, tree, "c"), ("b", "B"))
            self.assertEqual(last_to(pages, tree, "e"), ("b", "B"))
            self.assertEqual(last_to(pages, tree, "o"), ("g", "G"))
            self.assertEqual(entries_of(pages, tree, "c", "m"), [("f", "F"), ("g", "G")])
            self.assertEqual(entries_of(pages, tree, "g", "b"), [])
            self.assertEqual(depth(pages, tree), 2)

    def test_empty_values_and_the_empty_key(self):
        pages = fresh_pages()
        tree = ("leaf", (("", ""), ("a", "")))
        self.assertEqual((value_at(pages, tree, ""), value_at(pages, tree, "b")), ("", None))
        self.assertEqual((last_to(pages, tree, ""), entries_of(pages, tree, "", "a")), (("", ""), [("", "")]))
        self.assertEqual(entries_of(pages, tree, None, ""), [])

    def test_trees_of_several_levels(self):
        for seed in range(25):
            chance = Random(seed)
            pages = fresh_pages()
            tree, plain = tree_by_chance(pages, chance, 3 + 7 * seed)
            some = on_pages(pages, tree, chance)
            every = on_pages(pages, tree)
            for form in (tree, some, every):
                self.check_tree(pages, form, plain)
                self.assertEqual(depth(pages, form), depth(pages, tree))
        self.assertGreaterEqual(depth(pages, tree), 3)

    def test_names_of_arguments_and_new_lists(self):
        pages = fresh_pages()
        tree = on_pages(pages, LOOSE)
        self.assertEqual(value_at(pages=pages, tree=tree, key="q"), "Q")
        self.assertEqual(last_to(pages=pages, tree=tree, key="r"), ("q", "Q"))
        self.assertEqual(depth(pages=pages, tree=tree), 2)
        entries_of(pages=pages, tree=tree, low="a", high="c").clear()
        self.assertEqual(entries_of(pages, tree, "a", "c"), [("a", "A"), ("b", "B")])

    def test_telling_writes_nothing(self):
        pages = fresh_pages(steps=50)
        tree = on_pages(pages, bulk(tuple((f"{at:03d}", "v") for at in range(40))))
        ahead = (pages.disk.pending, pages.disk.steps, pages.kept)
        self.check_tree(pages, tree, {f"{at:03d}": "v" for at in range(40)})
        self.assertEqual((pages.disk.pending, pages.disk.steps, pages.kept), ahead)


if __name__ == "__main__":
    unittest.main()
