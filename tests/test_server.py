from random import Random
import unittest

from heldpasts.disk import Disk
from heldpasts.errors import (Alike, Conflict, Held, InvalidCommand, InvalidNumber, InvalidPlan, InvalidQuestion,
                              InvalidRow, InvalidSchema, LogFull, Missing, NoIndex, NoName, NoStore, NotSerial, NoTable,
                              PowerCut, Refused, StoreError, StoreFull, Taken, TooLong)
from heldpasts.meaning import meaning_of
from heldpasts.pages import fresh_image
from heldpasts.server import Server
from heldpasts.store import Store
from tests.helpers import Case
from tests.scripts import SHAPES
from tests.stores import choice_by_chance, fresh_disk

WHOLE = "number {}; least {}; standing {}; sessions{}; prepared{}; waiting{}"


def fresh_server(pages=60, log_blocks=12, signs=800):
    return Server(fresh_disk(pages, log_blocks, signs))


class ServerCase(Case):
    def setUp(self):
        self.server = fresh_server()

    def told(self, *commands):
        return [self.server.execute(command) for command in commands]

    def one(self, command):
        return self.server.execute(command)

    def unchanged(self, kind, *commands):
        """Each command raises just this error and changes nothing."""
        for command in commands:
            before = self.one("state"), self.server.store.meaning(), self.sessions()
            error = self.refused(kind, self.server.execute, command)
            self.assertEqual((self.one("state"), self.server.store.meaning(), self.sessions()), before)
        return error

    def sessions(self):
        return {name: (session.snapshot, session.changes, session.notes, session.guards, session.ended)
                for name, session in self.server.sessions.items()}


class SessionTest(ServerCase):
    def test_example(self):
        self.server = Server(disk=Disk(fresh_image(20, 8, 300), 300))
        self.assertEqual(self.told("begin a", "put a 'x' 'it''s'", "commit a", "begin b", "get b 'x'",
                                   "range b none none"), ["0", "ok", "1", "1", "'it''s'", "'x' 'it''s'"])
        self.assertEqual(self.told("table b t ( a int , b text free ) key ( a )", "add b t ( 1 , none )",
                                   "look b t where none b", "state"),
                         ["ok", "ok", "( 1 , none )",
                          "number 1; least 0; standing 1; sessions b; prepared; waiting"])

    def test_a_fresh_one(self):
        self.assertEqual(self.server.execute(command="state"),
                         "number 0; least 0; standing 0; sessions; prepared; waiting")
        self.assertEqual(self.told("order", "sync", "checkpoint", "vacuum 0"), ["none", "none", "ok", "ok"])
        self.refused(NoStore, Server, Disk(("",) * 5, 100))

    def test_beginnings(self):
        self.assertEqual(self.told("begin a", "put a 'x' '1'", "commit a", "begin b", "put b 'x' '2'", "later b",
                                   "begin a", "serial s", "past p 1", "past q 0", "get a 'x'", "get s 'x'",
                                   "get p 'x'", "get q 'x'"),
                         ["0", "ok", "1", "1", "ok", "2", "2", "2", "1", "0", "'2'", "'2'", "'1'", "none"])
        self.assertEqual([self.server.sessions[name].serial for name in "aspq"], [False, True, False, False])
        self.unchanged(InvalidNumber, "past a 3", "past z 3", "past a 99999999")
        # One that stood by the name is dropped.
        elder = self.server.sessions["a"]
        self.assertEqual(self.told("put a 'y' '3'", "past a 1", "get a 'y'"), ["ok", "1", "none"])
        self.assertTrue(elder.ended)
        self.assertEqual(self.one("state"), WHOLE.format(2, 0, 1, " a p q s", "", " 2"))
        for word in ("begin", "serial"):
            elder = self.server.sessions["a"]
            self.one(word + " a")
            self.assertTrue(elder.ended)

    def test_put_take_get_range(self):
        self.told("begin a", "put a 'b c' ''", "put a 'b!' '''q'''", "put a '' 'x'", "put a 'c' 'none'")
        self.assertEqual(self.told("get a 'b c'", "get a 'b!'", "get a ''", "get a 'c'", "get a 'd'"),
                         ["''", "'''q'''", "'x'", "'none'", "none"])
        self.assertEqual(self.one("range a none none"), "'' 'x'; 'b c' ''; 'b!' '''q'''; 'c' 'none'")
        self.assertEqual(self.told("range a 'b c' 'b!'", "range a 'b!' none", "range a none 'b!'", "range a 'c' 'b'",
                                   "range a 'c' 'c'", "range a 'cc' none"),
                         ["'b c' ''", "'b!' '''q'''; 'c' 'none'", "'' 'x'; 'b c' ''", "none", "none", "none"])
        self.assertEqual(self.told("take a 'b!'", "take a 'zz'", "get a 'b!'", "commit a", "begin a"),
                         ["ok", "ok", "none", "1", "1"])
        self.assertEqual(self.one("range a 'b' none"), "'b c' ''; 'c' 'none'")
        # They lie at the row codes of "p" and the text, and whatever else lies there is none of them.
        self.assertEqual(self.server.store.entries("tp ", "tp!", 1), [("tp t ", "x"), ("tp tb!ac ", ""),
                                                                      ("tp tc ", "none")])
        self.server.store.add((("tp 0", "4"), ("tp pA1", "5"), ("tp t", "1"), ("tp ta o", "2"), ("tp ta!", "3")))
        self.assertEqual(self.told("begin b", "range b none none", "table b t ( a text ) key ( a )",
                                   "add b t ( 'c' )", "range b none none")[1::3],
                         ["'' 'x'; 'b c' ''; 'c' 'none'"] * 2)

    def test_texts_in_their_order(self):
        texts = ["", " ", "  ", " !", "!", "!!", "!a", "\"", "a", "a ", "a b", "a!", "a!a", "aa", "~"]
        self.told("begin a", *("put a '" + text + "' '" + text + "'" for text in reversed(texts)))
        told = "; ".join("'" + text + "' '" + text + "'" for text in texts)
        self.assertEqual(self.one("range a none none"), told)
        for at, low in enumerate(texts):
            for end, high in enumerate(texts):
                inside = texts[at:end]
                told = "; ".join("'" + text + "' '" + text + "'" for text in inside) or "none"
                self.assertEqual(self.one("range a '" + low + "' '" + high + "'"), told)

    def test_endings(self):
        self.told("begin a", "begin b", "begin c", "begin d", "put a 'a' '1'", "put b 'b' '1'", "put c 'c' '1'")
        self.assertEqual(self.told("commit a", "later b", "prepare c one", "drop d"), ["1", "2", "ok", "ok"])
        self.assertEqual(self.one("state"), WHOLE.format(2, 0, 2, "", " one", ""))
        self.unchanged(NoName, "commit a", "later b", "prepare c one", "drop d")
        # A session without changes tells its snapshot.
        self.assertEqual(self.told("past a 1", "commit a", "past a 0", "later a"), ["1", "1", "0", "0"])

    def test_errors_of_endings(self):
        self.told("begin a", "begin b", "put a 'x' '1'", "put b 'x' '2'", "commit a")
        self.assertEqual(self.unchanged(Conflict, "commit b", "later b", "prepare b one").lot, ("tp tx ",))
        self.told("begin c", "put c 'y' '1'", "prepare c one", "begin d", "put d 'y' '2'")
        self.assertEqual(self.unchanged(Held, "commit d", "later d", "prepare d two").lot, ("one",))
        self.assertEqual(self.unchanged(Taken, "prepare d one").word, "one")
        self.told("serial s", "serial t", "get s 'u'", "get t 'v'", "put s 'v' '1'", "put t 'u' '1'", "commit s")
        self.assertEqual(self.unchanged(NotSerial, "commit t", "later t").ring, (3, 2))
        self.unchanged(Refused, "prepare t two")
        self.assertEqual(self.unchanged(TooLong, "put d '" + "x" * 200 + "' ''").text, "tp t" + "x" * 200 + " ")

    def test_prepared(self):
        self.told("begin a", "put a 'x' '1'", "prepare a one", "begin a", "put a 'y' '1'", "prepare a two")
        self.assertEqual(self.one("state"), WHOLE.format(0, 0, 0, "", " one two", ""))
        self.assertEqual(self.told("settle two", "letgo one", "begin a", "range a none none"),
                         ["1", "ok", "1", "'y' '1'"])
        self.assertEqual(self.unchanged(NoName, "settle one", "letgo two", "settle zzz").name, "zzz")

    def test_batches(self):
        for at in range(3):
            self.told("begin a", f"put a 'x' '{at}'")
            self.assertEqual(self.one("later a"), str(at + 1))
        self.assertEqual(self.one("state"), WHOLE.format(3, 0, 0, "", "", " 1 2 3"))
        self.assertEqual(self.told("sync", "sync"), ["1 2 3", "none"])
        self.assertEqual(self.told("begin a", "put a 'x' 'y'", "later a", "checkpoint", "sync"),
                         ["3", "ok", "4", "ok", "none"])
        self.assertEqual(self.one("state"), WHOLE.format(4, 0, 4, "", "", ""))

    def test_order(self):
        self.told("serial s", "get s 'x'", "begin a", "put a 'x' '1'", "commit a", "put s 'y' '1'")
        self.assertEqual(self.told("order", "commit s", "order"), ["1", "2", "2 1"])

    def test_vacuum(self):
        self.told("begin a", "put a 'x' '1'", "commit a", "past p 0", "past q 1")
        self.unchanged(InvalidNumber, "vacuum 1", "vacuum 2")
        self.assertEqual(self.told("vacuum 0", "drop p", "vacuum 1"), ["ok"] * 3)
        self.unchanged(InvalidNumber, "vacuum 0", "past p 0")
        self.assertEqual(self.one("state"), WHOLE.format(1, 1, 1, " q", "", ""))

    def test_names_ahead_of_other_errors(self):
        self.told("begin a", "put a 'x' '1'", "prepare a one")
        pieces = {"NAME": "zz", "NUMBER": "9", "TEXT": "'" + "x" * 200 + "'", "BOUND": "'x'", "COLUMNS": "( b )",
                  "ALONE": "alone", "ROW": "( 1 )", "SCHEMA": "t ( a int free ) key ( a )", "QUESTION": "t most 1"}
        for shape in SHAPES:
            if len(shape) > 1 and shape[0] not in ("begin", "serial", "past", "settle", "letgo", "vacuum"):
                command = " ".join([shape[0]] + [pieces[kind] for kind in shape[1:]])
                self.assertEqual(self.unchanged(NoName, command).name, "zz", command)
        self.unchanged(NoName, "prepare zz one")

    def test_invalid_commands(self):
        self.one("begin a")
        for command, index in (("", 0), ("begin", 5), ("get a x", 6), ("commit a ", 8), (None, 0), (7, 0), (("sync",), 0),
                               ("get zz", 6), ("add a t ( 1 , 02 )", 15)):
            self.assertEqual(self.unchanged(InvalidCommand, command).index, index)


class TableTest(ServerCase):
    def setUp(self):
        super().setUp()
        self.told("begin a", "table a t ( k int , b text free , c truth free ) key ( k ) check less k 100",
                  "add a t ( 2 , 'it''s' , none )", "add a t ( 1 , none , true )", "add a t ( -3 , 'x' , false )")

    def test_rows(self):
        self.assertEqual(self.one("look a t"), "( -3 , 'x' , false ); ( 1 , none , true ); ( 2 , 'it''s' , none )")
        self.assertEqual(self.told("row a t ( 1 )", "row a t ( 9 )", "row a t ( )", "row a t ( 'x' , none )"),
                         ["( 1 , none , true )", "none", "none", "none"])
        self.assertEqual(self.told("change a t ( 1 ) ( 7 , '' , none )", "remove a t ( 2 )", "look a t"),
                         ["ok", "ok", "( -3 , 'x' , false ); ( 7 , '' , none )"])
        self.assertEqual(self.told("untable a t", "table a t ( k int ) key ( k )", "look a t"), ["ok", "ok", "none"])

    def test_questions(self):
        self.assertEqual(self.told("look a t where none b give ( k )", "look a t give ( ) most 2", "look a t most 0",
                                   "look a t give ( c , k , c ) order ( c down ) most 2",
                                   "look a t where and less k 2 not none b"),
                         ["( 1 )", "( ); ( )", "none", "( true , 1 , true ); ( false , -3 , false )",
                          "( -3 , 'x' , false )"])

    def test_indexes_and_plans(self):
        self.assertEqual(self.told("plan a t", "plan a t where is k 2"), ["all 3", "key 'pA2' 'pA3' 1"])
        self.assertEqual(self.told("index a t ib ( b ) alone", "index a t ic ( c , b )"), ["ok", "ok"])
        self.assertEqual(self.told("plan a t where is b 'it''s'", "plan a t where not none b",
                                   "plan a t where is c false", "plan a t where is b none"),
                         ["index ib 'tit''s ' 'tit''s!' 1", "index ib '1' none 2", "index ic '1' '2' 1",
                          "index ib '' '' 0"])
        self.assertEqual(self.told("unindex a t ib", "plan a t where is b 'it''s'"), ["ok", "all 3"])
        self.assertEqual(self.server.sessions["a"].ended, False)

    def test_long_codes(self):
        long = "'" + "!" * 200 + "'"
        self.assertEqual(self.one("plan a t where is b " + long), "all 3")
        self.one("index a t ib ( b )")
        code = "t" + "!b" * 200
        self.assertEqual(self.one("plan a t where is b " + long), f"index ib '{code} ' '{code}!' 0")

    def test_errors(self):
        self.told("index a t ib ( b ) alone")
        self.assertEqual(self.unchanged(NoTable, "untable a u", "index a u i ( b )", "unindex a u i", "add a u ( 1 )",
                                        "change a u ( 1 ) ( 2 )", "remove a u ( 1 )", "row a u ( 1 )").name, "u")
        self.unchanged(InvalidQuestion, "look a u", "plan a u", "look a t where none x", "look a t give ( x )",
                       "look a t order ( x )", "plan a t where none x")
        self.unchanged(InvalidSchema, "table a u ( k int free ) key ( k )", "table a u ( k int , k int ) key ( k )",
                       "table a u ( k int ) key ( x )", "table a u ( k int ) key ( k ) check none x",
                       "table a t ( k int ) key ( k ) check none x", "index a t i ( x )", "index a t key ( b )",
                       "index a t i ( b , b )",
                       "table a u ( k int ) key ( k )" + " check none k" * 5)
        self.assertEqual(self.unchanged(Taken, "table a t ( k int ) key ( k )").word, "t")
        self.assertEqual(self.unchanged(Taken, "index a t ib ( c )").word, "ib")
        self.assertEqual(self.unchanged(Taken, "add a t ( 1 , 'z' , none )").word, "key")
        self.assertEqual(self.unchanged(Taken, "change a t ( 1 ) ( 5 , 'x' , none )").word, "ib")
        self.unchanged(InvalidRow, "add a t ( 1 )", "add a t ( 200 , none , none )", "add a t ( '1' , none , none )",
                       "change a t ( 1 ) ( )")
        self.assertEqual(self.unchanged(Missing, "change a t ( 9 ) ( 9 , none , none )", "remove a t ( 9 )").row, (9,))
        self.assertEqual(self.unchanged(NoIndex, "unindex a t i").name, "i")
        self.told("add a t ( 4 , 'y' , true )")
        self.assertEqual(self.unchanged(Alike, "index a t i ( c ) alone").pair, ((1,), (4,)))
        self.unchanged(TooLong, "add a t ( 5 , '" + "x" * 190 + "' , none )")

    def test_a_session_of_a_past(self):
        self.told("commit a", "begin b", "remove b t ( 1 )", "commit b")
        self.assertEqual(self.told("past a 1", "past b 2", "row a t ( 1 )", "row b t ( 1 )", "past c 0"),
                         ["1", "2", "( 1 , none , true )", "none", "0"])
        self.unchanged(NoTable, "row c t ( 1 )")


NAMES = ("a", "b", "c")
TEXTS = ("'a'", "'b'", "'it''s'")


def command_by_chance(chance):
    """A command of few names, so that most of it meets something."""
    name, text, other = chance.choice(NAMES), chance.choice(TEXTS), chance.choice(TEXTS)
    table, key = chance.choice(("t", "u")), chance.randrange(4)
    row = f"( {key} , {chance.choice(TEXTS + ('none',))} )"
    return chance.choice((
        f"begin {name}", f"begin {name}", f"serial {name}", f"serial {name}", f"past {name} {chance.randrange(9)}",
        f"commit {name}", f"commit {name}", f"commit {name}", f"later {name}", f"drop {name}",
        f"prepare {name} {chance.choice('pq')}", f"settle {chance.choice('pq')}", f"letgo {chance.choice('pq')}", "sync",
        f"put {name} {text} {other}", f"put {name} {text} {other}", f"put {name} {text} {other}", f"take {name} {text}", f"get {name} {text}",
        f"get {name} {text}", f"range {name} {chance.choice(TEXTS + ('none',))} {chance.choice(TEXTS + ('none',))}",
        f"table {name} {table} ( k int , b text free ) key ( k )", f"untable {name} {table}",
        f"index {name} {table} {chance.choice('ij')} ( b ){chance.choice(('', ' alone'))}",
        f"unindex {name} {table} {chance.choice('ij')}", f"add {name} {table} {row}", f"add {name} {table} {row}",
        f"add {name} {table} {row}", f"change {name} {table} ( {chance.randrange(4)} ) {row}",
        f"remove {name} {table} ( {key} )", f"row {name} {table} ( {key} )", f"look {name} {table}",
        f"look {name} {table} where is b {text} order ( k down )", f"plan {name} {table} where not none b",
        f"vacuum {chance.randrange(9)}", "checkpoint", "order", "state"))


def command_in_mood(chance, mood):
    """A command: any one, one of those by which rows come to be alike, or by which serial sessions cross."""
    command = command_by_chance(chance)
    if mood == 1:
        while command.split()[0] not in ("serial", "get", "put", "commit", "add", "row", "table", "index"):
            command = command_by_chance(chance)
    if mood == 2:
        name = chance.choice(NAMES)
        command = chance.choice((f"serial {name}", f"get {name} 'a'", f"get {name} 'b'", f"row {name} t ( 1 )",
                                 f"put {name} {chance.choice(TEXTS)} 'x'", f"commit {name}", f"look {name} u"))
    return command


def answer_of(server, command):
    """The answer, or the error with its field."""
    try:
        return server.execute(command)
    except PowerCut:
        raise
    except StoreError as error:
        return (type(error).__name__, sorted(vars(error).items()))


class FactTest(ServerCase):
    """Fact N."""

    def test_what_raises_changes_no_later_answer(self):
        raised = {}
        for seed in range(150):
            chance = Random(seed)
            one, other = fresh_server(150, 30), fresh_server(150, 30)
            for _ in range(150):
                command = command_in_mood(chance, seed % 3)
                answer = answer_of(one, command)
                if isinstance(answer, str):
                    # The other one hears only of what did not raise.
                    self.assertEqual(answer_of(other, command), answer, command)
                    if command.split()[0] == "commit":
                        self.assertEqual(one.versions.history(), other.versions.history())
                else:
                    raised[answer[0]] = True
            self.assertEqual(one.store.meaning(), other.store.meaning())
        self.assertTrue({"Conflict", "Held", "NotSerial", "NoName", "Taken", "Refused", "NoTable", "InvalidNumber",
                         "InvalidQuestion", "Missing", "NoIndex", "Alike"} <= set(raised), raised)

    def test_reads_of_what_raises_refuse_no_commit(self):
        self.told("begin a", "table a t ( k int ) key ( k )", "add a t ( 1 )", "commit a")
        for command, kind in (("add s t ( 1 )", Taken), ("remove s t ( 2 )", Missing), ("look s u", InvalidQuestion),
                              ("row s u ( 1 )", NoTable)):
            self.told("serial s", "begin b", "put b 'x' '1'", "get s 'y'", "put s 'z' '1'")
            notes = self.server.sessions["s"].notes
            self.unchanged(kind, command)
            self.assertEqual(self.server.sessions["s"].notes, notes)
            # What was noted before is noted once, as ever.
            self.told("get s 'y'", "commit s", "drop b")
            self.assertEqual(self.server.versions.history()[-1][2], notes)

    def test_full_stores(self):
        self.server = fresh_server(1, 3, 200)
        for at in range(3):
            self.told("begin a", f"put a 'k{at}' 'x'", f"put a 'l{at}' 'x'", "commit a")
        self.told("begin a", "put a 'z' 'x'")
        self.unchanged(StoreFull, "commit a", "later a", "prepare a one", "vacuum 1", "checkpoint")
        self.server = fresh_server(20, 1, 200)
        self.told("begin a", *(f"put a 'k{at}' 'xxxxxxxxxx'" for at in range(9)))
        self.unchanged(LogFull, "commit a")

    def test_behind_cuts(self):
        """A server opened anew answers as one to which a beginning of the commits was told."""
        lost = 0
        for seed in range(150):
            chance = Random(seed)
            disk = fresh_disk(150, 8, 800, chance.randrange(5, 60))
            states, safe = [self.answers(fresh_server())], 0
            for _ in range(3):
                server = Server(disk)
                try:
                    for _ in range(60):
                        command = command_by_chance(chance)
                        # What a deed that the cut ends would lead to is looked at in a server of its own.
                        offer = self.offered(server, command)
                        if offer is not None:
                            states.append(offer)
                        answer = answer_of(server, command)
                        number = server.store.number
                        del states[number + 1:]
                        safe = max(safe, int(server.execute("state").split("; ")[2].split()[1]))
                        if command.startswith("commit") and offer is not None and isinstance(answer, str):
                            self.assertGreaterEqual(safe, int(answer))
                except PowerCut:
                    pass
                image = disk.behind(choice_by_chance(chance, disk))
                self.assertEqual(Store(Disk(image, 800)).meaning(), meaning_of(image, 800))
                disk = Disk(image, 800)
                again = Server(disk)
                number = again.store.number
                self.assertTrue(safe <= number < len(states), (safe, number, len(states)))
                lost += number < len(states) - 1
                self.assertEqual(self.answers(again), states[number])
                del states[number + 1:]
                again.store.disk.steps = chance.choice((10, 30, None))
        self.assertGreater(lost, 20)

    def offered(self, server, command):
        """The answers behind a command, if it commits: of a copy of the server's newest past with its changes."""
        word, *names = command.split()
        changes = None
        if word in ("commit", "later") and names[0] in server.sessions:
            session = server.sessions[names[0]]
            if session.changes or session.serial:
                changes = session.changes
        if word == "settle" and names[0] in server.keeper.names():
            changes = server.keeper.told(names[0])[0]
        if changes is None:
            return None
        copy = fresh_server()
        copy.store.add(tuple(server.store.entries(None, None, server.store.number)))
        copy.store.add(changes)
        return self.answers(copy)

    def answers(self, server):
        """What it answers to begin (but for the number), get, range, row and look."""
        server.execute("begin zz")
        commands = ["range zz none none"] + ["get zz " + text for text in TEXTS]
        for table in ("t", "u"):
            commands += [f"look zz {table}", f"look zz {table} where is b 'a' order ( k down )"]
            commands += [f"row zz {table} ( {key} )" for key in range(4)]
        found = [answer_of(server, command) for command in commands]
        server.execute("drop zz")
        return found


if __name__ == "__main__":
    unittest.main()
