"""A store with all that is done with it by chance, and plain maps beside it, through cuts and openings."""

from heldpasts.batches import Batch, standing
from heldpasts.disk import Disk
from heldpasts.errors import Conflict, Held, LogFull, NotSerial, PowerCut, StoreFull
from heldpasts.feeds import letters_from
from heldpasts.followers import Follower
from heldpasts.judge import is_serial_order, is_snapshot_history, told_history
from heldpasts.meaning import meaning_of
from heldpasts.prepared import Keeper
from heldpasts.sessions import Versions
from heldpasts.store import Store
from tests.serials import note_has
from tests.stores import choice_by_chance, fresh_disk

KEYS = ("a", "b", "bb", "c", "d", "e", "f", "g")
BOUNDS = (None, "a", "b", "ba", "c", "e", "f")
NAMES = ("p", "q", "r")


def laid_over(past, changes):
    found = {**past, **dict(changes)}
    return {key: value for key, value in found.items() if value is not None}


class World:
    """pasts are the plain maps behind each commit; states tell (number, least, holds) behind each record.

    Those up to the state of index safe are told done: no cut takes them.
    """

    def __init__(self, test, chance, sizes=(120, 6, 300), steps=None):
        self.test, self.chance, self.sizes = test, chance, sizes
        self.pasts, self.states, self.safe = [{}], [(0, 0, {})], 0
        self.counts = {}
        self.follower = Follower(Store(fresh_disk(120, 6, 300)))
        self.open(fresh_disk(*sizes, steps))

    def open(self, disk):
        self.store = Store(disk)
        self.versions = Versions(self.store)
        self.keeper = Keeper(self.versions)
        self.batch = Batch(self.versions, self.chance.choice((None, None, 1, 3)))
        self.sessions = []
        self.opened_past = self.pasts[self.store.number]

    def count(self, word):
        self.counts[word] = self.counts.get(word, 0) + 1

    def state(self, number=None, least=None, holds=None):
        newest = self.states[-1]
        return (newest[0] if number is None else number, newest[1] if least is None else least,
                newest[2] if holds is None else holds)

    def deed(self, word, call, state, past=None, synced=True):
        """Does what adds a record: it may stand from its beginning on, and stands when it is told."""
        self.states.append(state)
        if past is not None:
            self.pasts.append(past)
        try:
            told = call()
        except PowerCut:
            raise
        except (Conflict, Held, NotSerial, StoreFull, LogFull) as error:
            self.states.pop()
            if past is not None:
                self.pasts.pop()
            self.count(type(error).__name__)
            return None
        self.count(word)
        if synced:
            self.safe = len(self.states) - 1
        return told

    def commit(self, session):
        own = session.changes
        past = laid_over(self.pasts[-1], own)
        synced = self.chance.randrange(2) == 0
        number = len(self.pasts)
        if not own and not session.serial:
            self.test.assertEqual(self.batch.commit(session), session.snapshot)
            return
        call = (lambda: session.commit()) if synced else (lambda: self.batch.commit(session))
        told = self.deed("serial" if session.serial else "commit", call, self.state(number), past, synced)
        if told is None:
            session.drop()
            return
        self.test.assertEqual(told, number)
        for changes, guards in self.states[-1][2].values():
            held = {key for key, _ in changes}
            self.test.assertFalse([key for key, _ in own if key in held or self.guarded(key, guards)])

    def guarded(self, key, guards):
        return any(note_has(("entries",) + guard, key) for guard in guards)

    def prepare(self, session):
        name = self.chance.choice(NAMES)
        hold = (session.changes, session.guards)
        if not session.serial and session.changes and name not in self.keeper.names():
            state = self.state(holds={**self.states[-1][2], name: hold})
            self.deed("prepare", lambda: self.keeper.prepare(session, name), state)
        if not session.ended:
            session.drop()

    def end_prepared(self, name, settled):
        holds = dict(self.states[-1][2])
        changes = holds.pop(name)[0]
        if settled:
            past = laid_over(self.pasts[-1], changes)
            self.deed("settle", lambda: self.keeper.settle(name), self.state(len(self.pasts), holds=holds), past)
        else:
            self.deed("let_go", lambda: self.keeper.let_go(name), self.state(holds=holds))

    def step(self):
        """One thing by chance."""
        chance = self.chance
        word = chance.randrange(16)
        if word < 3 and len(self.sessions) < 6:
            serial = chance.randrange(4) > 0
            at = chance.randrange(self.store.least, self.store.number + 1)
            session = self.versions.begin(serial, None if serial or chance.randrange(2) else at)
            self.sessions.append((session, dict(self.pasts[session.snapshot])))
        elif word < 6 and self.sessions:
            session, _ = self.sessions.pop(chance.randrange(len(self.sessions)))
            self.commit(session) if chance.randrange(3) else self.prepare(session)
        elif word == 6 and self.keeper.names():
            self.end_prepared(chance.choice(self.keeper.names()), chance.randrange(3) > 0)
        elif word == 7:
            self.whole_deed()
        elif word == 8:
            self.tell_follower()
        elif self.sessions:
            self.act(*chance.choice(self.sessions))

    def whole_deed(self):
        word = self.chance.choice(("checkpoint", "sync", "vacuum"))
        if word == "vacuum":
            low = min([self.store.number] + self.versions.snapshots())
            least = self.chance.randrange(self.store.least, low + 1)
            self.deed("vacuum", lambda: self.versions.vacuum(least), self.state(least=least))
        elif word == "sync":
            self.batch.sync()
            self.safe = len(self.states) - 1
        else:
            try:
                self.store.checkpoint()
                self.safe = len(self.states) - 1
            except StoreFull:
                pass

    def act(self, session, seen):
        """A read, looked at, or an own change."""
        key = self.chance.choice(KEYS)
        word = self.chance.randrange(12)
        if word < 6:
            self.test.assertEqual(session.value_at(key), seen.get(key))
        elif word == 6:
            low, high = self.chance.choice(BOUNDS), self.chance.choice(BOUNDS)
            self.test.assertEqual(session.entries(low, high), [
                entry for entry in sorted(seen.items()) if note_has(("entries", low, high), entry[0])])
        elif word == 7 and not session.serial:
            session.guard(self.chance.choice(BOUNDS), self.chance.choice(BOUNDS))
        else:
            value = None if word == 8 else str(self.chance.randrange(100))
            session.put_all(((key, value),))
            seen.pop(key, None)
            seen.update(laid_over({}, ((key, value),)))

    def tell_follower(self):
        newest = standing(self.store)
        letters = letters_from(self.store, self.follower.number, 2)
        self.chance.shuffle(letters)
        for letter in letters[:self.chance.randrange(5)]:
            self.follower.hear(letter)
        self.look_at_follower()
        self.test.assertLessEqual(self.follower.number, newest)

    def look_at_follower(self):
        self.test.assertEqual(dict(self.follower.entries()), self.pasts[self.follower.number])

    def look(self):
        """All that can be read now, and that what is done stands."""
        self.test.assertEqual((self.store.number, self.store.least, self.versions.holds), self.states[-1])
        for number in range(self.store.least, self.store.number + 1):
            self.test.assertEqual(dict(self.store.entries(None, None, number)), self.pasts[number])
        self.test.assertGreaterEqual(standing(self.store), self.states[self.safe][0])
        self.look_at_follower()
        history = told_history(self.versions)
        entries = tuple(sorted(self.opened_past.items()))
        order = tuple(number - self.versions.opened for number in self.versions.told_order())
        self.test.assertTrue(is_serial_order(entries, history, order))
        if all(session[0] >= self.versions.opened for session in self.versions.history()):
            self.test.assertTrue(is_snapshot_history(entries, history))

    def cut(self, steps=None):
        """Cuts the power, and opens what is left: a state not ahead of what was told done."""
        disk = self.store.disk
        image = disk.behind(choice_by_chance(self.chance, disk))
        self.test.assertEqual(Store(Disk(image, disk.signs)).meaning(), meaning_of(image, disk.signs))
        store = Store(Disk(image, disk.signs, 0))
        found = (store.number, store.least, Versions(store).holds)
        self.test.assertIn(found, self.states[self.safe:])
        at = self.safe + self.states[self.safe:].index(found)
        if at < len(self.states) - 1:
            self.count("lost")
        self.states, self.safe = self.states[:at + 1], at
        del self.pasts[found[0] + 1:]
        self.open(Disk(image, disk.signs, steps))
        self.look()
