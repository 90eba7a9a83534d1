"""Prepared sessions: ready to commit, whatever happens in between."""

from heldpasts.conditions import check_name
from heldpasts.errors import Held, NoName, Refused, Taken
from heldpasts.holds import changing_names, held_names, hold_marks


class Keeper:
    """The prepared sessions of a Versions; they stand behind cuts, too."""

    def __init__(self, versions):
        self.versions = versions

    def names(self):
        """The lot of the names that stand."""
        return tuple(sorted(self.versions.holds))

    def told(self, name):
        """The hold of a name."""
        check_name(name)
        if name not in self.versions.holds:
            raise NoName(name)
        return self.versions.holds[name]

    def prepare(self, session, name):
        """Ends a session so that it can be settled, whatever happens in between."""
        check_name(name)
        session.check_open()
        if name in self.versions.holds:
            raise Taken(name)
        if session.serial or not session.changes:
            raise Refused("a serial session, or one without changes, is not prepared")
        self.versions.check_commit(session, held=False)
        self.check_free(session)
        hold = (session.changes, session.guards)
        self.add_marks(self.marks_of(name, hold))
        self.versions.holds[name] = hold
        self.versions.end(session)

    def check_free(self, session):
        """No hold meets what the session changes, or changes what it guards."""
        holds = self.versions.holds
        lot = sorted(set(held_names(holds, session.changes) + changing_names(holds, session.guards)))
        if lot:
            raise Held(tuple(lot))

    def settle(self, name):
        """Commits the changes of a name: the number."""
        hold = self.told(name)
        changes = hold[0]
        number = self.versions.store.number + 1
        # It commits as a session would that began just now and read nothing.
        node = (number, number - 1, (), tuple([key for key, _ in changes]))
        self.versions.lay(node, False, changes, self.marks_gone(name, hold), True)
        del self.versions.holds[name]
        return number

    def let_go(self, name):
        """Gives a name up; nothing of it is committed."""
        self.add_marks(self.marks_gone(name, self.told(name)))
        del self.versions.holds[name]

    def marks_of(self, name, hold):
        """The marks in which a hold lies."""
        return hold_marks(name, hold, self.versions.store.disk.signs)

    def marks_gone(self, name, hold):
        """The same marks, each of them going."""
        return tuple([(mark, None) for mark, _ in self.marks_of(name, hold)])

    def add_marks(self, marks):
        self.versions.store.add((), marks, False)
        self.versions.store.sync()
