"""Followers: stores that come along behind a leader's commits, by its letters."""

from heldpasts.checks import check_from
from heldpasts.feeds import check_letter, past_letters

# The name of the mark that tells the number of the leader's past.
OWN_MARK = "="


class Follower:
    """A store that has a leader's past of a number."""

    def __init__(self, store):
        self.store = store
        self.number = int(dict(store.marks()).get(OWN_MARK, "0"))
        self.parts = {}
        self.pieces = {}

    def entries(self):
        """The ascending list of its entries."""
        return self.store.entries(None, None, self.store.number)

    def letters(self, size):
        """The letters of all pieces of the past that it has."""
        check_from(size, 1)
        return past_letters(self.number, self.entries(), size)

    def waiting(self):
        """The lot of the numbers of the parts that wait, and the pieces that wait."""
        pieces = [(number, many, tuple(sorted(self.pieces[number, many]))) for number, many in sorted(self.pieces)]
        return (tuple(sorted(self.parts)), tuple(pieces))

    def hear(self, letter):
        """Comes along as far as the letters lead that it has heard: the number behind it."""
        check_letter(letter)
        if letter[0] == "none" or letter[1] <= self.number:
            return self.number
        parts, pieces = self.waiting_with(letter)
        number, past = self.led_to(parts, pieces)
        if number > self.number:
            self.add_past(number, past)
        # Nothing waits any more that leads to no greater number.
        self.number = number
        self.parts = {other: parts[other] for other in parts if other > number}
        self.pieces = {key: pieces[key] for key in pieces if key[0] > number}
        return number

    def waiting_with(self, letter):
        """The parts and pieces that wait, a letter among them; one that waits already stays as it is."""
        parts = {number: changes for number, changes in self.parts.items()}
        pieces = {key: found for key, found in self.pieces.items()}
        if letter[0] == "part":
            parts.setdefault(letter[1], letter[2])
        else:
            _, number, index, many, entries = letter
            found = {place: part for place, part in pieces.get((number, many), {}).items()}
            found.setdefault(index, entries)
            pieces[number, many] = found
        return (parts, pieces)

    def led_to(self, parts, pieces):
        """The number and the past, as a dictionary, to which parts and pieces lead."""
        number, past = self.number, dict(self.entries())
        whole = [key for key in pieces if len(pieces[key]) == key[1]]
        if whole:
            number, many = max(whole)
            found = pieces[number, many]
            past = {key: value for index in range(many) for key, value in found[index]}
        while number + 1 in parts:
            number += 1
            for key, value in parts[number]:
                past[key] = value
        return (number, {key: value for key, value in past.items() if value is not None})

    def add_past(self, number, past):
        """Commits just what leads to a past, with its number."""
        own = dict(self.entries())
        keys = sorted(set(list(own) + list(past)))
        changes = tuple([(key, past.get(key)) for key in keys if own.get(key) != past.get(key)])
        self.store.add(changes, ((OWN_MARK, f"{number:08d}"),))
        self.store.sync()
