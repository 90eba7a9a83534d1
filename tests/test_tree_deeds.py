from random import Random
import unittest

from heldpasts.tree import depth, entries_of, value_at
from heldpasts.tree_deeds import bulk, with_entry, without_key
from heldpasts.tree_pages import is_sound, reached
from tests.helpers import Case
from tests.trees import (fresh_pages, leaf, on_pages, pages_in, put_by_words, take_by_words, tree_by_chance, whole)

FOUR = leaf("a", "b", "c", "d")
LOW, HIGH = leaf("a", "b"), leaf("g", "h", "i")


def inner(marks, *kids):
    return ("inner", tuple(marks), kids)


def halvings(many):
    return many.bit_length() - 1


class PuttingTest(Case):
    def put(self, tree, key, value="!"):
        return with_entry(fresh_pages(), tree, key, value)

    def test_example(self):
        tree = ("leaf", (("a", "1"), ("b", "2"), ("c", "3"), ("d", "4")))
        parts = (("leaf", (("a", "1"), ("b", "2"))), ("leaf", (("bb", "9"), ("c", "3"), ("d", "4"))))
        self.assertEqual(self.put(tree, "bb", "9"), ("inner", ("bb",), parts))

    def test_into_none_and_into_a_leaf(self):
        self.assertEqual(self.put(None, "a", "A"), leaf("a"))
        self.assertEqual(self.put(leaf("b"), "a", "A"), leaf("a", "b"))
        self.assertEqual(self.put(leaf("b"), "c", "C"), leaf("b", "c"))
        self.assertEqual(self.put(leaf("a", "b", "d"), "c", "C"), FOUR)

    def test_a_key_that_stands_there(self):
        self.assertEqual(self.put(FOUR, "c"), ("leaf", FOUR[1][:2] + (("c", "!"),) + FOUR[1][3:]))
        self.assertEqual(self.put(FOUR, "c", "C"), FOUR)

    def test_where_a_leaf_is_parted(self):
        for key, mark, first in (("", "b", ("", "a")), ("cc", "c", ("a", "b")), ("e", "c", ("a", "b")),
                                 ("aa", "b", ("a", "aa"))):
            tree = self.put(FOUR, key, key.upper())
            keys = sorted(("a", "b", "c", "d", key))
            self.assertEqual(tree, inner([mark], leaf(*first), leaf(*keys[2:])))

    def test_marks_say_where_a_key_belongs(self):
        tree = inner(["f"], LOW, HIGH)
        self.assertEqual(self.put(tree, "f", "F"), inner(["f"], LOW, leaf("f", "g", "h", "i")))
        self.assertEqual(self.put(tree, "ee", "EE"), inner(["f"], leaf("a", "b", "ee"), HIGH))
        # The mark stays, though it is less than the first key behind it.
        self.assertEqual(self.put(inner(["f"], LOW, FOUR), "x", "X")[1], ("f", "c"))

    def test_a_kid_is_parted(self):
        tree = inner(["c", "g"], LOW, leaf("c", "d", "e", "f"), HIGH)
        told = inner(["c", "e", "g"], LOW, leaf("c", "d"), leaf("e", "e!", "f"), HIGH)
        self.assertEqual(self.put(tree, "e!", "E!"), told)

    def test_an_inner_node_is_parted(self):
        kids = (LOW, leaf("c", "d"), leaf("e", "f"), leaf("g", "h", "i", "j"))
        tree = self.put(inner(["c", "e", "g"], *kids), "k", "K")
        left = inner(["c"], LOW, leaf("c", "d"))
        right = inner(["g", "i"], leaf("e", "f"), leaf("g", "h"), leaf("i", "j", "k"))
        self.assertEqual(tree, inner(["e"], left, right))

    def test_a_parted_inner_node_below_a_top(self):
        first = inner(["c", "e", "g"], LOW, leaf("c", "d"), leaf("e", "f"), leaf("g", "h", "i", "j"))
        second = inner(["r"], leaf("p", "q"), leaf("r", "s"))
        tree = self.put(inner(["p"], first, second), "hh", "HH")
        left = inner(["c"], LOW, leaf("c", "d"))
        right = inner(["g", "hh"], leaf("e", "f"), leaf("g", "h"), leaf("hh", "i", "j"))
        self.assertEqual(tree, inner(["e", "p"], left, right, second))

    def test_pages_beside_the_way_stay(self):
        pages = fresh_pages()
        kids = [on_pages(pages, leaf(*keys)) for keys in ("ab", "cd", "ef", "gh")]
        tree = on_pages(pages, inner(["c", "e", "g"], *kids))
        self.assertEqual(with_entry(pages, tree, "d", "D"), inner(["c", "e", "g"], kids[0], leaf("c", "d"), *kids[2:]))
        self.assertEqual(with_entry(pages, kids[1], "d", "D"), leaf("c", "d"))
        told = inner(["c", "e", "g"], *kids[:3], ("leaf", (("g", "G"), ("h", "H"), ("x", "!"))))
        self.assertEqual(with_entry(pages=pages, tree=tree, key="x", value="!"), told)


class TakingTest(Case):
    def take(self, tree, key):
        return without_key(fresh_pages(), tree, key)

    def test_a_key_that_is_not_there(self):
        pages = fresh_pages()
        tree = inner(["c"], LOW, FOUR)
        page = on_pages(pages, FOUR)
        for form in (None, FOUR, tree, page):
            self.assertIs(without_key(pages, form, "bb"), form)
            self.assertIs(without_key(pages, form, ""), form)

    def test_a_leaf_on_top(self):
        self.assertEqual(self.take(FOUR, "b"), leaf("a", "c", "d"))
        self.assertEqual(self.take(LOW, "a"), leaf("b"))
        self.assertIsNone(self.take(leaf("a"), "a"))
        pages = fresh_pages()
        self.assertIsNone(without_key(pages, on_pages(pages, leaf("a")), "a"))

    def test_marks_stay_whatever_keys_go(self):
        tree = inner(["c"], LOW, leaf("c", "d", "e"))
        self.assertEqual(self.take(tree, "c"), inner(["c"], LOW, leaf("d", "e")))

    def test_laid_together_with_the_neighbour_ahead(self):
        tree = inner(["c", "f"], LOW, leaf("c", "d"), leaf("g", "h"))
        self.assertEqual(self.take(tree, "h"), inner(["c"], LOW, leaf("c", "d", "g")))
        self.assertEqual(self.take(tree, "c"), inner(["f"], leaf("a", "b", "d"), leaf("g", "h")))

    def test_the_first_one_with_the_neighbour_behind(self):
        tree = inner(["c", "f"], LOW, leaf("c", "d"), leaf("g", "h"))
        self.assertEqual(self.take(tree, "a"), inner(["f"], leaf("b", "c", "d"), leaf("g", "h")))

    def test_laid_together_and_parted_again(self):
        tree = inner(["c", "x"], leaf("a", "b"), leaf("d", "e", "f", "g"), leaf("x", "y"))
        self.assertEqual(self.take(tree, "a"), inner(["e", "x"], leaf("b", "d"), leaf("e", "f", "g"), leaf("x", "y")))
        self.assertEqual(self.take(tree, "x"), inner(["c", "f"], leaf("a", "b"), leaf("d", "e"), leaf("f", "g", "y")))

    def test_a_top_gives_way(self):
        self.assertEqual(self.take(inner(["c"], LOW, leaf("c", "d")), "d"), leaf("a", "b", "c"))
        self.assertEqual(self.take(inner(["c"], LOW, leaf("c", "d")), "a"), leaf("b", "c", "d"))
        pages = fresh_pages()
        tree = on_pages(pages, inner(["c"], LOW, leaf("c", "d")))
        self.assertEqual(without_key(pages, tree, "d"), leaf("a", "b", "c"))

    def test_inner_nodes_laid_together(self):
        one = inner(["c"], LOW, leaf("c", "d"))
        other = inner(["r"], leaf("p", "q"), leaf("r", "s"))
        # The mark between them stands between their kids, though no key equals it.
        tree = inner(["m"], one, other)
        self.assertEqual(self.take(tree, "s"), inner(["c", "m"], LOW, leaf("c", "d"), leaf("p", "q", "r")))
        self.assertEqual(self.take(tree, "a"), inner(["m", "r"], leaf("b", "c", "d"), leaf("p", "q"), leaf("r", "s")))

    def test_inner_nodes_laid_together_and_parted_again(self):
        one = inner(["c", "e", "g"], LOW, leaf("c", "d"), leaf("e", "f"), leaf("g", "h"))
        other = inner(["r"], leaf("p", "q"), leaf("r", "s"))
        left = inner(["c"], LOW, leaf("c", "d"))
        right = inner(["g", "m"], leaf("e", "f"), leaf("g", "h"), leaf("p", "q", "r"))
        self.assertEqual(self.take(inner(["m"], one, other), "r"), inner(["e"], left, inner(
            ["g", "m"], leaf("e", "f"), leaf("g", "h"), leaf("p", "q", "s"))))
        self.assertEqual(self.take(inner(["m"], one, other), "s"), inner(["e"], left, right))
        tree = inner(["C"], inner(["B"], leaf("A", "AA"), leaf("B", "BB")), one)
        left = inner(["C"], leaf("AA", "B", "BB"), LOW)
        right = inner(["e", "g"], leaf("c", "d"), leaf("e", "f"), leaf("g", "h"))
        self.assertEqual(self.take(tree, "A"), inner(["c"], left, right))

    def test_pages_beside_the_way_stay(self):
        pages = fresh_pages()
        kids = [on_pages(pages, leaf(*keys)) for keys in ("ab", "cd", "ef", "gh")]
        tree = on_pages(pages, inner(["c", "e", "g"], *kids))
        told = inner(["c", "e"], kids[0], kids[1], leaf("e", "f", "h"))
        self.assertEqual(without_key(pages=pages, tree=tree, key="g"), told)
        self.assertEqual(without_key(pages, tree, "a"), inner(["e", "g"], leaf("b", "c", "d"), kids[2], kids[3]))


class ManyDeedsTest(Case):
    def check(self, pages, elder, tree, plain):
        self.assertTrue(is_sound(pages, tree))
        self.assertEqual(entries_of(pages, tree, None, None), sorted(plain.items()))
        self.assertLessEqual(depth(pages, tree), max(1, halvings(max(1, len(plain)))))
        found = pages_in(tree, pages)
        self.assertEqual(len(found), len(set(found)))
        self.assertLessEqual(set(found), set(pages_in(elder, pages)))

    def new_nodes(self, pages, tree):
        """For each level, from the top down, how many nodes are no pages."""
        levels, level = [], [] if tree is None else [tree]
        while level:
            levels.append(sum(not isinstance(kid, int) for kid in level))
            level = [below for kid in level if not isinstance(kid, int) and kid[0] == "inner" for below in kid[2]]
        return levels

    def test_against_a_dictionary_and_the_words(self):
        for seed in range(30):
            chance = Random(seed)
            pages = fresh_pages(150)
            tree, plain = tree_by_chance(pages, chance, chance.choice((4, 20, 60)))
            tree = on_pages(pages, tree, chance)
            for step in range(60):
                elder, ahead = tree, repr(whole(pages, tree))
                pending = pages.disk.pending
                key = "k" + str(chance.randrange(70))
                if chance.randrange(2):
                    told = put_by_words(whole(pages, tree), key, str(step))
                    tree = with_entry(pages, tree, key, str(step))
                    plain[key] = str(step)
                elif key in plain:
                    told = take_by_words(whole(pages, tree), key)
                    tree = without_key(pages, tree, key)
                    del plain[key]
                else:
                    self.assertIs(without_key(pages, tree, key), tree)
                    continue
                self.assertEqual(whole(pages, tree), told)
                self.assertEqual(repr(whole(pages, elder)), ahead)
                self.assertEqual(pages.disk.pending, pending)
                self.check(pages, elder, tree, plain)

    def test_new_nodes_on_each_level(self):
        for seed in range(40):
            chance = Random(seed)
            pages = fresh_pages(150)
            tree, plain = tree_by_chance(pages, chance, 5 * seed)
            tree = on_pages(pages, tree)
            key = "k" + str(chance.randrange(5 * seed + 1))
            new = self.new_nodes(pages, with_entry(pages, tree, key, "!"))
            self.assertLessEqual(max(new), 2)
            # As many levels as the elder tree had, or one node on top of them.
            if len(new) > depth(pages, tree):
                self.assertEqual((new[0], len(new)), (1, depth(pages, tree) + 1))
            if key in plain:
                new = self.new_nodes(pages, without_key(pages, tree, key))
                self.assertLessEqual(max(new, default=0), 2)

    def test_up_and_down_again(self):
        pages = fresh_pages()
        keys = [f"{at * 37 % 101:03d}" for at in range(101)]
        tree, plain = None, {}
        for key in keys:
            tree = with_entry(pages, tree, key, "v" + key)
            plain[key] = "v" + key
            self.check(pages, None, tree, plain)
        for key in keys:
            tree = without_key(pages, tree, key)
            del plain[key]
            self.check(pages, None, tree, plain)
            self.assertIsNone(value_at(pages, tree, key))
        self.assertIsNone(tree)

    def test_arguments_stay_and_results_are_equal(self):
        pages = fresh_pages()
        tree = bulk(tuple((f"{at:02d}", "") for at in range(30)))
        told = repr(tree)
        self.assertEqual(with_entry(pages, tree, "055", "x"), with_entry(pages, tree, "055", "x"))
        self.assertEqual(without_key(pages, tree, "11"), without_key(pages, tree, "11"))
        self.assertEqual(repr(tree), told)


class BulkTest(Case):
    def entries(self, many):
        return tuple((f"{at:03d}", f"v{at}") for at in range(many))

    def leaves(self, tree):
        return [tree] if tree[0] == "leaf" else [found for kid in tree[2] for found in self.leaves(kid)]

    def sizes(self, many):
        """The sizes of so many things in parts of four, as the words tell them."""
        sizes = [4] * (many // 4) + ([many % 4] if many % 4 else [])
        if many > 1 and many % 4 == 1:
            sizes[-2:] = [3, 2]
        return sizes

    def test_small_ones(self):
        entries = self.entries(9)
        self.assertIsNone(bulk(()))
        for many in (1, 2, 3, 4):
            self.assertEqual(bulk(entries[:many]), ("leaf", entries[:many]))
        five = inner(["003"], ("leaf", entries[:3]), ("leaf", entries[3:5]))
        self.assertEqual(bulk(entries=entries[:5]), five)
        self.assertEqual(bulk(entries[:6]), inner(["004"], ("leaf", entries[:4]), ("leaf", entries[4:6])))
        nine = inner(["004", "007"], ("leaf", entries[:4]), ("leaf", entries[4:7]), ("leaf", entries[7:]))
        self.assertEqual(bulk(entries), nine)

    def test_seventeen(self):
        entries = self.entries(17)
        parts = [("leaf", entries[start:end]) for start, end in ((0, 4), (4, 8), (8, 12), (12, 15), (15, 17))]
        self.assertEqual(bulk(entries), inner(["012"], inner(["004", "008"], *parts[:3]), inner(["015"], *parts[3:])))

    def test_the_told_shape(self):
        pages = fresh_pages()
        for many in range(1, 206):
            tree = bulk(self.entries(many))
            self.assertTrue(is_sound(pages, tree), many)
            self.assertEqual(entries_of(pages, tree, None, None), list(self.entries(many)))
            self.assertEqual(reached(pages, tree), ())
            level = [tree]
            levels = []
            while level[0][0] == "inner":
                levels.append([len(node[2]) for node in level])
                for node in level:
                    firsts = [self.leaves(kid)[0][1][0][0] for kid in node[2]]
                    self.assertEqual(node[1], tuple(firsts[1:]))
                level = [kid for node in level for kid in node[2]]
            levels.append([len(node[1]) for node in level])
            count = many
            for sizes in reversed(levels):
                self.assertEqual(sizes, self.sizes(count))
                count = len(sizes)
            self.assertEqual(count, 1)


if __name__ == "__main__":
    unittest.main()
