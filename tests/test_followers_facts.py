"""Facts M and M2: a follower is a beginning of its leader, whatever befalls the letters and the disks."""

from random import Random
import unittest

from heldpasts.batches import standing
from heldpasts.disk import Disk
from heldpasts.errors import PowerCut, TooOld
from heldpasts.feeds import copy_letter, copy_letters, letter_text, letter_told, letters_from
from heldpasts.followers import Follower
from heldpasts.store import Store
from tests.helpers import Case
from tests.stores import changes_by_chance, choice_by_chance, fresh_disk


class Leader:
    """A leader whose power is cut now and then, and all pasts that stood."""

    def __init__(self, chance):
        self.chance = chance
        self.store = Store(fresh_disk(60, 5, 200))
        self.pasts = [[]]

    def act(self):
        """A few deeds, perhaps up to a cut."""
        self.store.disk.steps = self.chance.choice((None, None, 1, 3, 9))
        try:
            for _ in range(self.chance.randrange(6)):
                word = self.chance.randrange(9)
                if word == 0:
                    self.store.checkpoint()
                elif word == 1:
                    self.store.forget(self.chance.randrange(self.store.least, self.store.number + 1))
                elif word < 4:
                    self.store.sync()
                else:
                    self.store.add(changes_by_chance(self.chance, 4))
        except PowerCut:
            image = self.store.disk.behind(choice_by_chance(self.chance, self.store.disk))
            self.store = Store(Disk(image, 200))
        self.store.disk.steps = None
        # What stands now is what letters tell: it never becomes another one.
        for number in range(self.store.least, standing(self.store) + 1):
            past = self.store.entries(None, None, number)
            if number < len(self.pasts) and self.pasts[number] is not None:
                assert self.pasts[number] == past
            while number >= len(self.pasts):
                self.pasts.append(None)
            self.pasts[number] = past

    def letters(self, number):
        """Some letters, of the kinds that a leader tells."""
        newest = standing(self.store)
        size = self.chance.choice((None, 1, 2, 5))
        at = min(number, newest)
        try:
            if self.chance.randrange(3):
                return letters_from(self.store, at, size)
            past = self.chance.randrange(self.store.least, newest + 1)
            if self.chance.randrange(2):
                return copy_letters(self.store, past, size or 3)
            pieces = self.chance.randrange(1, 5)
            return [copy_letter(self.store, past, pieces, index) for index in range(pieces)]
        except TooOld:
            return letters_from(self.store, at, 3)


class Listener:
    """A follower, cut now and then, and what letters it heard since its opening."""

    def __init__(self, chance):
        self.chance = chance
        self.cuts = 0
        self.opened(Disk(fresh_disk(60, 5, 200).image, 200))

    def opened(self, disk):
        self.follower = Follower(Store(disk))
        self.first = self.follower.number
        self.heard = []

    def hear(self, letter):
        disk = self.follower.store.disk
        disk.steps = self.chance.choice((None,) * 9 + (0, 1, 2))
        try:
            self.heard.append(letter)
            self.follower.hear(letter)
            if self.chance.randrange(20) == 0:
                self.follower.store.checkpoint()
            if self.chance.randrange(20) == 0:
                self.follower.store.forget(self.follower.store.number)
            disk.steps = None
        except PowerCut:
            self.cuts += 1
            image = disk.behind(choice_by_chance(self.chance, disk))
            self.opened(Disk(image, 200))

    def reachable(self):
        """The greatest number to which steps lead, by the words."""
        parts = {letter[1] for letter in self.heard if letter[0] == "part"}
        found = {}
        for letter in self.heard:
            if letter[0] == "piece":
                found.setdefault((letter[1], letter[3]), set()).add(letter[2])
        whole = [number for (number, pieces), indexes in found.items() if len(indexes) == pieces]
        number = max([self.first] + whole)
        # Parts below a whole past lead to nothing that is not below it, too.
        start = self.first
        while start + 1 in parts:
            start += 1
        number = max(number, start)
        while number + 1 in parts:
            number += 1
        return number


class FactTest(Case):
    def look(self, leader, listener, elder):
        follower = listener.follower
        self.assertEqual(follower.entries(), leader.pasts[follower.number])
        self.assertLessEqual(elder, follower.number)
        self.assertLessEqual(follower.number, standing(leader.store))
        self.assertEqual(follower.number, listener.reachable())

    def test_one_leader(self):
        cuts = rises = 0
        for seed in range(120):
            chance = Random(seed)
            leader, listener, mail = Leader(chance), Listener(chance), []
            for _ in range(25):
                leader.act()
                mail += leader.letters(listener.follower.number)
                # Lost, doubled, crossed.
                chance.shuffle(mail)
                for letter in mail[:chance.randrange(6)]:
                    elder = listener.follower.number
                    listener.hear(letter_told(letter_text(letter)))
                    self.look(leader, listener, elder)
                    rises += listener.follower.number > elder
                mail = mail[chance.randrange(5):] if len(mail) < 60 else []
            cuts += listener.cuts
            # All of letters_from, in any sequence, leads to what stands now.
            letters = letters_from(leader.store, listener.follower.number, 2)
            chance.shuffle(letters)
            for letter in letters:
                listener.follower.hear(letter)
            self.assertEqual(listener.follower.number, standing(leader.store))
            self.assertEqual(listener.follower.entries(), leader.pasts[listener.follower.number])
        self.assertGreater(cuts, 100)
        self.assertGreater(rises, 300)

    def test_chains(self):
        """Followers that hear of a follower what it has, and of the leader, too."""
        handed = 0
        for seed in range(60):
            chance = Random(seed)
            leader, chain, mail = Leader(chance), [Listener(chance) for _ in range(3)], [[], [], []]
            for _ in range(25):
                leader.act()
                mail[0] += leader.letters(chain[0].follower.number)
                for at in (1, 2):
                    ahead = chain[at - 1].follower
                    letters = ahead.letters(chance.randrange(1, 4))
                    self.assertTrue(all(letter[1] == ahead.number for letter in letters))
                    mail[at] += letters
                    if chance.randrange(4) == 0:
                        mail[at] += leader.letters(chain[at].follower.number)
                for listener, letters in zip(chain, mail):
                    chance.shuffle(letters)
                    for letter in letters[:4]:
                        elder = listener.follower.number
                        listener.hear(letter)
                        self.look(leader, listener, elder)
                        handed += listener is not chain[0] and listener.follower.number > elder
                    del letters[:chance.randrange(6)]
        self.assertGreater(handed, 100)

    def test_any_sequence(self):
        """Fact M2: the same letters in unlike sequences lead to one number, and one map."""
        for seed in range(60):
            chance = Random(seed)
            leader, letters = Leader(chance), []
            for _ in range(8):
                leader.act()
                letters += leader.letters(chance.randrange(10))
            letters = [letter for letter in letters if chance.randrange(4)]
            found = set()
            for _ in range(4):
                chance.shuffle(letters)
                follower = Follower(Store(fresh_disk(60, 5, 200)))
                for letter in letters + letters[:3]:
                    follower.hear(letter)
                found.add((follower.number, tuple(follower.entries())))
            self.assertEqual(len(found), 1)


if __name__ == "__main__":
    unittest.main()
