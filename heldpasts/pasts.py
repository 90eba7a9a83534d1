"""The pasts that can be read, and the newest marks, in memory."""

from heldpasts.layout import mark_entry, version_entry
from heldpasts.tree import lies_in


class Pasts:
    """The versions of the keys, as far as the pasts from least to number see them, and the marks."""

    def __init__(self, least, number):
        self.least = least
        self.number = number
        self.by_key = {}
        self.texts = {}

    def lay_version(self, key, number, value):
        """A version behind all others of its key."""
        self.by_key[key] = self.by_key.get(key, ()) + ((number, value),)

    def lay_commit(self, changes):
        self.number = self.number + 1
        for key, value in changes:
            self.lay_version(key, self.number, value)

    def lay_marks(self, marks):
        for name, text in marks:
            if text is None:
                self.texts.pop(name, None)
            else:
                self.texts[name] = text

    def forget(self, least):
        """Leaves out what no past from least on sees."""
        self.least = least
        for key in list(self.by_key):
            seen = seen_from(least, self.by_key[key])
            if seen:
                self.by_key[key] = seen
            else:
                del self.by_key[key]

    def versions_of(self, key):
        return self.by_key.get(key, ())

    def newest(self, key):
        """The number of the last version of a key, 0 without one."""
        versions = self.versions_of(key)
        return versions[-1][0] if versions else 0

    def keys_in(self, low, high):
        """The ascending list of the keys of a stretch that have versions."""
        return sorted([key for key in self.by_key if lies_in(key, low, high)])

    def entries(self, low, high, number):
        """The ascending list of what a past holds in a stretch."""
        found = [(key, value_in(self.by_key[key], number)) for key in self.keys_in(low, high)]
        return [entry for entry in found if entry[1] is not None]

    def marks(self):
        return tuple(sorted(self.texts.items()))

    def meaning(self):
        """The tuple (least, number, keys, marks) that tells all of this."""
        keys = tuple(sorted(self.by_key.items()))
        return (self.least, self.number, keys, self.marks())

    def tree_entries(self):
        """The ascending tuple of the entries of a tree that tells all of this."""
        versions = [version_entry(key, number, value) for key in self.by_key for number, value in self.by_key[key]]
        return tuple(sorted(versions + [mark_entry(name, text) for name, text in self.texts.items()]))


def seen_from(least, versions):
    """The versions that the pasts from least on see."""
    behind = tuple([version for version in versions if version[0] > least])
    value = value_in(versions, least)
    if value is None:
        return behind
    return versions[len(versions) - len(behind) - 1:]


def value_in(versions, number):
    """The value that the last version up to a number tells, None if there is none."""
    for own_number, value in reversed(versions):
        if own_number <= number:
            return value
    return None
