"""Batches: several commits that one sync makes stand."""

from heldpasts.checks import check_from
from heldpasts.meaning import meaning_of


def standing(store):
    """The number of the newest commit that no cut can take."""
    return meaning_of(store.disk.image, store.disk.signs)[1]


class Batch:
    """Commits that are not synced at once, and which of them stand."""

    def __init__(self, versions, most=None):
        if most is not None:
            check_from(most, 1)
        self.versions = versions
        self.most = most
        self.numbers = {}

    def commit(self, session):
        """Commits a session without a sync: the number; syncs when too many are waiting."""
        number = self.versions.commit(session, synced=False)
        self.numbers[number] = True
        if self.most is not None and len(self.waiting()) >= self.most:
            self.sync()
        return number

    def waiting(self):
        """The lot of the told numbers that a cut can take."""
        newest = standing(self.versions.store)
        return tuple(sorted([number for number in self.numbers if number > newest]))

    def done(self):
        """The lot of the told numbers that no cut can take."""
        newest = standing(self.versions.store)
        return tuple(sorted([number for number in self.numbers if number <= newest]))

    def sync(self):
        """Makes all stand: the lot of the numbers that were waiting."""
        lot = self.waiting()
        self.versions.store.sync()
        return lot
