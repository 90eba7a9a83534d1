"""A server: a store, its sessions by names, and one language for all that is done with them."""

from heldpasts.answers import ANSWERS, DONE, NOTHING
from heldpasts.batches import Batch, standing
from heldpasts.errors import NoName, StoreError
from heldpasts.prepared import Keeper
from heldpasts.script_texts import command_told
from heldpasts.sessions import Versions
from heldpasts.store import Store

BEGINNINGS = ("begin", "serial", "past")
ENDINGS = ("commit", "later", "drop", "prepare")


class Server:
    """Answers to commands; a command that raises changes nothing."""

    def __init__(self, disk):
        self.store = Store(disk)
        self.versions = Versions(self.store)
        self.keeper = Keeper(self.versions)
        self.batch = Batch(self.versions)
        self.sessions = {}

    def execute(self, command):
        """The answer to a command."""
        pieces = command_told(command)
        word, members = pieces[0], pieces[1:]
        if word in BEGINNINGS:
            return self.begin_by(word, members)
        if word in ENDINGS:
            return self.end_by(word, members)
        if word in ANSWERS:
            return self.answered(word, members)
        if word in ("settle", "letgo", "vacuum"):
            return self.done_with(word, members[0])
        return self.told_of_all(word)

    def begin_by(self, word, members):
        """Begins a session, in the place of one that stood by the name."""
        name = members[0]
        session = self.versions.begin(word == "serial", members[1] if word == "past" else None)
        if name in self.sessions:
            self.sessions[name].drop()
        self.sessions[name] = session
        return str(session.snapshot)

    def session_by(self, name):
        if name not in self.sessions:
            raise NoName(name)
        return self.sessions[name]

    def end_by(self, word, members):
        """Ends a session, if it can be ended so; its name stands no longer."""
        name = members[0]
        session = self.session_by(name)
        answer = DONE
        if word == "commit":
            answer = str(session.commit())
        elif word == "later":
            answer = str(self.batch.commit(session))
        elif word == "prepare":
            self.keeper.prepare(session, members[1])
        else:
            session.drop()
        del self.sessions[name]
        return answer

    def answered(self, word, members):
        """What a session answers, which goes on."""
        session = self.session_by(members[0])
        rest = members[1:]
        notes = session.notes
        answer = ANSWERS[word]
        try:
            return answer(session, *rest)
        except StoreError:
            # What the command read on its way is not to refuse a commit: it told nothing.
            session.go_back_to(notes)
            raise

    def done_with(self, word, member):
        """Does what names a prepared session, or a past."""
        if word == "settle":
            return str(self.keeper.settle(member))
        if word == "letgo":
            self.keeper.let_go(member)
        else:
            self.versions.vacuum(member)
        return DONE

    def told_of_all(self, word):
        """Does what names nothing."""
        if word == "checkpoint":
            self.store.checkpoint()
            return DONE
        if word == "state":
            return self.state()
        numbers = self.batch.sync() if word == "sync" else self.versions.told_order()
        return " ".join(words_of(numbers)) if numbers else NOTHING

    def state(self):
        """What stands now."""
        lines = [["number", str(self.store.number)], ["least", str(self.store.least)],
                 ["standing", str(standing(self.store))], ["sessions"] + sorted(self.sessions),
                 ["prepared"] + list(self.keeper.names()), ["waiting"] + words_of(self.batch.waiting())]
        return "; ".join([" ".join(line) for line in lines])


def words_of(numbers):
    return [str(number) for number in numbers]
