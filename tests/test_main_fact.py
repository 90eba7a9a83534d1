"""The main fact of [1], and Facts K, L and M on its way: whatever is done side by side, and wherever power is cut."""

from random import Random
import unittest

from heldpasts.errors import PowerCut
from tests.helpers import Case
from tests.worlds import World


class MainFactTest(Case):
    def play(self, world, steps):
        try:
            for _ in range(steps):
                world.step()
                if world.chance.randrange(8) == 0:
                    world.look()
            world.look()
            return True
        except PowerCut:
            return False

    def test_cuts_and_openings(self):
        counts = {}
        for seed in range(260):
            chance = Random(seed)
            world = World(self, chance, steps=chance.randrange(5, 80))
            for _ in range(4):
                self.play(world, 140)
                world.cut(chance.choice((0, 2, 5, 20, 50, 90, None)))
            for word, many in world.counts.items():
                counts[word] = counts.get(word, 0) + many
        for word in ("commit", "serial", "prepare", "settle", "let_go", "vacuum", "Conflict", "Held", "NotSerial",
                     "lost"):
            self.assertGreater(counts[word], 30, counts)

    def test_small_stores(self):
        """Where the tree and the log are full now and then, a deed is done whole or not at all."""
        counts = {}
        for seed in range(120):
            chance = Random(seed)
            world = World(self, chance, (chance.choice((2, 3, 5)), 2, 200), chance.randrange(5, 60))
            for _ in range(3):
                self.play(world, 80)
                world.cut(chance.choice((3, 10, 40, None)))
            for word, many in world.counts.items():
                counts[word] = counts.get(word, 0) + many
        self.assertGreater(min(counts["StoreFull"], counts["lost"]), 30, counts)

    def test_cuts_at_each_step(self):
        for seed in range(6):
            steps, whole = 0, False
            while not whole:
                world = World(self, Random(seed), steps=steps)
                whole = self.play(world, 120)
                world.chance = Random(steps)
                world.cut()
                steps += 1
            self.assertGreater(steps, 10)

    def test_without_cuts(self):
        for seed in range(40):
            world = World(self, Random(seed), (150, 12, 300))
            self.assertTrue(self.play(world, 250))
            world.cut()


if __name__ == "__main__":
    unittest.main()
