"""Sessions: each reads one past of a store, and changes it all at once when it ends."""

from heldpasts.checks import check_changes, check_stretch, check_text
from heldpasts.errors import Conflict, Ended, Held, InvalidNumber, NotSerial
from heldpasts.holds import held_names, holds_told
from heldpasts.layout import check_changes_room
from heldpasts.serial import kept_nodes, order_of, ring_through
from heldpasts.tree import lies_in


class Session:
    """What one reads of a snapshot, and what one would change; begun by a Versions."""

    def __init__(self, versions, serial, snapshot):
        self.versions = versions
        self.serial = serial
        self.snapshot = snapshot
        self.ended = False
        self.changes = ()
        self.notes = ()
        self.guards = ()
        self.own = {}
        self.noted = {}

    def value_at(self, key):
        """The value of a key, own changes laid over the snapshot's."""
        check_text(key)
        self.check_open()
        if key in self.own:
            return self.own[key]
        value = self.versions.store.value_at(key, self.snapshot)
        self.make_note(("value", key, value))
        return value

    def entries(self, low, high, back=False):
        """The list of the entries of a stretch, ascending, or descending with back."""
        check_stretch(low, high)
        self.check_open()
        told = self.versions.store.entries(low, high, self.snapshot)
        self.make_note(("entries", low, high, tuple(told)))
        found = dict(told)
        for key, value in self.changes:
            if lies_in(key, low, high):
                found[key] = value
        rows = [(key, found[key]) for key in sorted(found) if found[key] is not None]
        if back:
            rows.reverse()
        return rows

    def make_note(self, note):
        """Notes what a serial session has met in its snapshot, each time it is new."""
        if self.serial and note not in self.noted:
            self.noted[note] = True
            self.notes = self.notes + (note,)

    def go_back_to(self, notes):
        """Keeps no other notes than these, which it had before."""
        self.notes = notes
        self.noted = {note: True for note in notes}

    def put(self, key, value):
        """An own change: the key has this value."""
        check_text(key)
        check_text(value)
        self.put_all(((key, value),))

    def take(self, key):
        """An own change: the key goes."""
        check_text(key)
        self.put_all(((key, None),))

    def put_all(self, changes):
        """Own changes, all of them or none."""
        check_changes(changes)
        self.check_open()
        check_changes_room(changes, self.versions.store.disk.signs)
        for key, value in changes:
            self.own[key] = value
        self.changes = tuple([(key, self.own[key]) for key in sorted(self.own)])

    def guard(self, low, high):
        """Lets the commit fail if others changed a key of this stretch behind the snapshot."""
        check_stretch(low, high)
        self.check_open()
        if (low, high) not in self.guards:
            self.guards = self.guards + ((low, high),)

    def commit(self):
        """Ends with all own changes done at once: the number of the commit."""
        return self.versions.commit(self)

    def drop(self):
        """Ends without any change."""
        self.check_open()
        self.versions.end(self)

    def check_open(self):
        if self.ended:
            raise Ended("the session has ended")


class Versions:
    """The sessions of a store, and the commits that they made."""

    def __init__(self, store):
        self.store = store
        self.number = store.number
        self.opened = store.number
        self.holds = holds_told(store.marks())
        self.sessions = []
        self.nodes = {}
        self.kept = {}
        self.commits = []

    def begin(self, serial=False, at=None):
        """A session that reads the newest past, or that of a number."""
        snapshot = self.store.number
        if at is not None:
            self.store.check_number(at)
            if serial and at != snapshot:
                raise InvalidNumber("a serial session reads the newest past alone")
            snapshot = at
        session = Session(self, serial, snapshot)
        self.sessions.append(session)
        return session

    def vacuum(self, least):
        """Forgets all pasts ahead of one, if no open session reads such a past."""
        self.store.check_number(least)
        if any([session.snapshot < least for session in self.sessions]):
            raise InvalidNumber("an open session reads an elder past")
        self.store.forget(least)

    def snapshots(self):
        """The ascending list of the snapshots of the open sessions."""
        return sorted(set([session.snapshot for session in self.sessions]))

    def commit(self, session, synced=True):
        """Ends a session with all its changes done at once: the number of the commit."""
        session.check_open()
        number = session.snapshot
        if session.serial or session.changes:
            self.check_commit(session)
            number = self.lay(self.node_of(session), session.serial, session.changes, (), synced)
        self.end(session)
        return number

    def check_commit(self, session, held=True):
        """Raises what refuses a commit of the session, whether or not it has something to commit."""
        lot = self.changed_by_others(session)
        if lot:
            raise Conflict(lot)
        names = held_names(self.holds, session.changes)
        if held and names:
            raise Held(names)
        snapshots = [other.snapshot for other in self.sessions if other.serial]
        # What is forgotten is in no ring with any commit that may still come.
        self.kept = kept_nodes(self.kept, snapshots)
        node = self.node_of(session)
        nodes = {number: kept for number, kept in self.kept.items()}
        nodes[node[0]] = node
        ring = ring_through(nodes, node[0])
        if ring is not None:
            raise NotSerial(ring)

    def changed_by_others(self, session):
        """The lot of the keys that the session changes or guards and that were changed behind its snapshot."""
        found = {key: True for key, _ in session.changes if self.store.newest(key) > session.snapshot}
        for low, high in session.guards:
            for key in self.store.changed_behind(low, high, session.snapshot):
                found[key] = True
        return tuple(sorted(found))

    def node_of(self, session):
        """The node of the commit that a session would make now."""
        keys = tuple([key for key, _ in session.changes])
        return (self.store.number + 1, session.snapshot, session.notes, keys)

    def lay(self, node, serial, changes, marks, synced):
        """Adds a commit and keeps its node: the number."""
        number = self.store.add(changes, marks)
        if synced:
            self.store.sync()
        self.number = number
        self.nodes[number] = node
        self.kept[number] = node
        self.commits.append((node[1], serial, node[2], changes))
        return number

    def end(self, session):
        session.ended = True
        self.sessions.remove(session)

    def history(self):
        """The tuple of (snapshot, serial, notes, changes) of the commits made here."""
        return tuple(self.commits)

    def told_order(self):
        """An order of the commits made here in which each one stands ahead of all that it leads."""
        return order_of(self.nodes)
