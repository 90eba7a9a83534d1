from random import Random
import unittest

from heldpasts.disk import Disk
from heldpasts.errors import NoStore, PowerCut, StoreFull
from heldpasts.pages import Pages, head_text
from heldpasts.tree import entries_of, node_of, node_text, node_told
from heldpasts.tree_deeds import bulk, with_entry, without_key
from heldpasts.tree_pages import is_sound, reached, stored
from tests.helpers import Case
from tests.trees import fresh_pages, leaf, on_pages, pages_in, tree_by_chance, whole


def inner(marks, *kids):
    return ("inner", tuple(marks), kids)


ONE = inner(["c"], leaf("a", "b"), leaf("c", "d"))
OTHER = inner(["r"], leaf("p", "q"), leaf("r", "s"))
SOUND = [
    None, leaf("a"), leaf("a", "b"), leaf("a", "b", "c", "d"), ONE, inner(["bb"], leaf("a", "b"), leaf("c", "d")),
    inner(["m"], ONE, OTHER), inner(["d!"], ONE, OTHER), inner(["p"], ONE, OTHER),
    inner(["c", "e", "g"], leaf("a", "b"), leaf("c", "d"), leaf("e", "f"), leaf("g", "h", "i", "j")),
    ("leaf", (("", ""), ("a", ""))),
]
SPOILT = [
    leaf(), leaf("a", "b", "c", "d", "e"), leaf("b", "a"), leaf("a", "a"), leaf("a", "b", "d", "c"),
    # Leaves with too few or too many.
    inner(["c"], leaf("a", "b"), leaf("c")), inner(["c"], leaf("a"), leaf("c", "d")),
          inner(["c"], leaf(), leaf("c", "d")),
    inner(["c"], leaf("a", "b"), leaf()), inner(["c"], leaf("a", "b"), leaf("c", "d", "e", "f", "g")),
    # Keys out of sequence within a leaf, from leaf to leaf, and one that stands twice.
    inner(["c"], leaf("b", "a"), leaf("c", "d")), inner(["c"], leaf("a", "b"), leaf("d", "c")),
    inner(["c"], leaf("c", "d"), leaf("a", "b")), inner(["b"], leaf("a", "b"), leaf("b", "d")),
    # Marks too low or too high.
    inner(["b"], leaf("a", "b"), leaf("c", "d")), inner([""], leaf("a", "b"), leaf("c", "d")),
    inner(["cc"], leaf("a", "b"), leaf("c", "d")), inner(["z"], leaf("a", "b"), leaf("c", "d")),
    inner(["d"], ONE, OTHER), inner(["p!"], ONE, OTHER), inner(["z"], ONE, OTHER), inner(["a"], ONE, OTHER),
    inner(["m"], ONE, inner(["b"], leaf("p", "q"), leaf("r", "s"))),
    inner(["m"], inner(["z"], leaf("a", "b"), leaf("c", "d")), OTHER),
    # Too few or too many kids.
    inner([], leaf("a", "b")), inner([], ONE), inner(["m"], ONE, inner([], leaf("p", "q"))),
    inner("cegi", leaf("a", "b"), leaf("c", "d"), leaf("e", "f"), leaf("g", "h"), leaf("i", "j")),
    inner("cegikmpr", *(leaf(one, one + "1") for one in "acegikmpr")),
    # Ways of unlike length.
    inner(["m"], ONE, leaf("p", "q")), inner(["m"], leaf("a", "b"), OTHER),
    inner(["m", "z"], ONE, OTHER, leaf("z", "zz")),
          inner(["z"], inner(["m"], ONE, OTHER), inner(["zb"], leaf("z", "za"), leaf("zb", "zc"))),
]


class SoundTest(Case):
    def forms(self, pages, tree):
        chance = Random(repr(tree))
        return [tree, on_pages(pages, tree), on_pages(pages, tree, chance), on_pages(pages, tree, chance)]

    def test_sound_trees(self):
        for tree in SOUND:
            pages = fresh_pages()
            for form in self.forms(pages, tree):
                self.assertIs(is_sound(pages, form), True, tree)

    def test_spoilt_trees(self):
        for tree in SPOILT:
            pages = fresh_pages()
            for form in self.forms(pages, tree):
                self.assertIs(is_sound(pages, form), False, tree)

    def test_one_thing_spoilt(self):
        """Keys and marks of a sound tree exchanged for others, against the words of the point."""
        pages = fresh_pages()
        tree = inner(["m"], ONE, OTHER)
        for at, mark in ((0, "b!"), (0, "b"), (0, "c"), (0, "c!"), (1, "q!"), (1, "r"), (1, "r!"), (1, "q")):
            kids = list(tree[2])
            kids[at] = ("inner", (mark,), kids[at][2])
            sound = (mark > "b" and mark <= "c") if at == 0 else (mark > "q" and mark <= "r")
            self.assertIs(is_sound(pages, inner(["m"], *kids)), sound)
        for mark in ("c!", "d", "d!", "e", "m", "o", "p", "p!"):
            self.assertIs(is_sound(pages=pages, tree=inner([mark], ONE, OTHER)), "d" < mark <= "p")

    def test_trees_by_chance(self):
        for seed in range(20):
            chance = Random(seed)
            pages = fresh_pages()
            tree, _ = tree_by_chance(pages, chance, 10 * seed)
            self.assertTrue(is_sound(pages, on_pages(pages, tree, chance)))


class ReachedTest(Case):
    def test_lots(self):
        pages = fresh_pages()
        self.assertEqual(reached(pages, None), ())
        self.assertEqual(reached(pages, ONE), ())
        self.assertEqual(reached(pages, on_pages(pages, leaf("a"))), (99,))
        self.assertEqual(reached(pages=pages, tree=on_pages(pages, ONE)), (96, 97, 98))

    def test_trees_by_chance(self):
        for seed in range(20):
            chance = Random(seed)
            pages = fresh_pages()
            tree, _ = tree_by_chance(pages, chance, 8 * seed)
            tree = on_pages(pages, tree, chance)
            self.assertEqual(reached(pages, tree), tuple(sorted(pages_in(tree, pages))))

    def test_trees_that_are_not_sound(self):
        pages = fresh_pages(10)
        pages.place(3, node_text(leaf()))
        pages.place(5, node_text(inner("bcdefghi", 3, 4, 6, 7, 8, 9, 0, 1, 2)))
        for page in (0, 1, 2, 4, 6, 7, 8, 9):
            pages.place(page, node_text(leaf("z", "a")))
        self.assertEqual(reached(pages, 5), tuple(range(10)))

    def test_grounds_for_no_store(self):
        pages = fresh_pages(6)
        pages.place(0, node_text(leaf("a", "b")))
        pages.place(1, node_text(inner(["c"], 0, 0)))
        pages.place(2, node_text(inner(["c"], 0, 6)))
        pages.place(3, node_text(inner(["c"], 0, 3)))
        pages.place(4, "x")
        wrong = [1, 2, 3, 4, 5, 6, -1, 9999, 10 ** 80, inner(["c"], 0, 0), inner(["c"], 0, 4), inner(["c"], 0, 5),
                 inner(["c"], 6, 0)]
        wrong += [inner(["c"], leaf("a", "b"), -1),
                  inner(["m"], inner(["c"], 0, leaf("c", "d")), inner(["q"], leaf("p"), 0))]
        wrong += [inner(["m"], leaf("a", "b"), inner(["q"], 0, 5))]
        for tree in wrong:
            with self.subTest(tree=tree):
                self.refused(NoStore, reached, pages, tree)
        self.assertEqual(reached(pages, inner(["c"], 0, leaf("c"))), (0,))


class StoredTest(Case):
    def test_none_and_pages(self):
        pages = fresh_pages(4, steps=9)
        page = on_pages(pages, leaf("a"))
        pages.keep((0, 1, 2, 3))
        ahead = pages.disk.pending
        self.assertIsNone(stored(pages, None))
        self.assertEqual(stored(pages, page), page)
        self.assertEqual((pages.disk.pending, pages.disk.steps), (ahead, 8))

    def test_the_sequence_of_the_places(self):
        pages = fresh_pages(12)
        pages.keep((0, 2, 3))
        tree = inner(["m"], ONE, OTHER)
        self.assertEqual(stored(pages=pages, tree=tree), 9)
        nodes = [leaf("a", "b"), leaf("c", "d"), inner(["c"], 1, 4), leaf("p", "q"), leaf("r", "s"), inner(["r"], 6, 7),
                 inner(["m"], 5, 8)]
        places = [1, 4, 5, 6, 7, 8, 9]
        self.assertEqual(pages.disk.pending, tuple((2 + page, node_text(node)) for page, node in zip(places, nodes)))
        self.assertEqual(whole(pages, 9), tree)
        self.assertEqual((pages.kept, pages.disk.image[2:14]), ((0, 2, 3), ("",) * 12))

    def test_only_what_is_no_page_is_placed(self):
        pages = fresh_pages(9)
        kids = [on_pages(pages, leaf("a", "b")), on_pages(pages, OTHER)]
        ahead = len(pages.disk.pending)
        tree = inner(["c", "m"], kids[0], leaf("c", "d"), leaf("m", "n"))
        self.assertEqual(stored(pages, inner(["p"], tree, kids[1])), 3)
        placed = [(2, node_text(leaf("c", "d"))), (3, node_text(leaf("m", "n")))]
        placed += [(4, node_text(inner(["c", "m"], kids[0], 0, 1))), (5, node_text(inner(["p"], 2, kids[1])))]
        self.assertEqual(pages.disk.pending[ahead:], tuple(placed))
        self.assertEqual(reached(pages, 3), tuple(sorted([0, 1, 2, 3] + list(pages.kept))))

    def test_store_full_ahead_of_all_placing(self):
        tree = inner(["m"], ONE, OTHER)
        for kept, fits in (((), True), ((3,), True), ((3, 4), False), (tuple(range(8)), False)):
            pages = fresh_pages(8, steps=20)
            pages.keep(kept)
            if fits:
                stored(pages, tree)
                self.assertEqual(len(pages.disk.pending), 7)
            else:
                self.refused(StoreFull, stored, pages, tree)
                self.assertEqual((pages.disk.pending, pages.disk.steps), ((), 20))
        # Pages of the tree need no others.
        pages = fresh_pages(4)
        pages.keep((0, 1))
        self.assertEqual(stored(pages, inner(["c"], 0, leaf("c", "d"))), 3)
        pages.keep((0, 1, 2))
        self.refused(StoreFull, stored, pages, inner(["c"], 0, leaf("c", "d")))
        self.assertEqual(stored(pages, inner(["c"], 0, 1)), 3)
        pages = fresh_pages(1)
        self.refused(StoreFull, stored, pages, ONE)
        self.assertEqual(stored(pages, leaf("a")), 0)

    def test_power_cut_amid_it(self):
        tree = inner(["m"], ONE, OTHER)
        for steps in range(7):
            pages = fresh_pages(8, steps=steps)
            self.refused(PowerCut, stored, pages, tree)
            self.assertEqual([index for index, _ in pages.disk.pending], list(range(2, 2 + steps)))
            self.refused(PowerCut, stored, pages, tree)

    def test_bulk_trees(self):
        entries = tuple((f"{at:03d}", "v" * (at % 20)) for at in range(200))
        for many in (1, 5, 17, 64, 200):
            pages = fresh_pages(100)
            tree = bulk(entries[:many])
            page = stored(pages, tree)
            self.assertEqual(reached(pages, page), tuple(range(page + 1)))
            self.assertEqual(whole(pages, page), tree)
            self.assertLessEqual(page + 1, many)
            self.assertIs(is_sound(pages, page), True)


class TurnsTest(Case):
    """Trees that are stored and turned to, with the power cut at each step."""

    def rounds(self, disk, maps):
        """A few rounds of deeds, each stored and turned to; maps gets the map of each turn ahead of it."""
        pages = Pages(disk)
        tree = None if pages.head[2] == 0 else pages.head[2] - 1
        plain = dict(entries_of(pages, tree, None, None))
        for turn in range(4):
            pages.keep(reached(pages, tree))
            for at in range(5):
                key = f"k{(turn * 11 + at * 7) % 17:02d}"
                if (turn + at) % 4 == 3:
                    tree = without_key(pages, tree, key)
                    plain.pop(key, None)
                else:
                    tree = with_entry(pages, tree, key, str(turn))
                    plain[key] = str(turn)
            maps[pages.head[0] + 1] = sorted(plain.items())
            tree = stored(pages, tree)
            pages.turn_to(tree, 0, 0, 0)

    def test_elder_or_newer(self):
        whole_run = fresh_pages(40, steps=10000).disk
        maps = {0: []}
        self.rounds(whole_run, maps)
        steps = 10000 - whole_run.steps
        self.assertGreater(steps, 20)
        for cut in range(steps + 1):
            disk = fresh_pages(40, steps=cut).disk
            turns = {0: []}
            try:
                self.rounds(disk, turns)
                self.assertEqual(cut, steps)
            except PowerCut:
                pass
            last = max(turns)
            images = disk.images() if len(disk.pending) < 9 else [disk.behind((0,) * 44), disk.image]
            for image in images:
                pages = Pages(Disk(image, 200))
                turn, root = pages.head[0], pages.head[2]
                tree = None if root == 0 else root - 1
                self.assertIn(turn, (last - 1, last))
                self.assertTrue(is_sound(pages, tree))
                self.assertEqual(entries_of(pages, tree, None, None), maps[turn])
                self.assertEqual(maps[turn], turns[turn])

    def test_a_new_opening_goes_on(self):
        first = fresh_pages(40).disk
        maps = {0: []}
        self.rounds(first, maps)
        second = Disk(first.image, 200, 30)
        try:
            self.rounds(second, maps)
        except PowerCut:
            pass
        self.assertEqual(second.image[:2].count(head_text(Pages(Disk(second.image, 200)).head)), 1)
        pages = Pages(Disk(second.image, 200))
        self.assertGreater(pages.head[0], 4)
        self.assertEqual(entries_of(pages, pages.head[2] - 1, None, None), maps[pages.head[0]])

    def test_placed_nodes_are_told(self):
        pages = fresh_pages()
        page = stored(pages, ONE)
        self.assertEqual(node_told(pages.read(page)), node_of(pages, page))


if __name__ == "__main__":
    unittest.main()
