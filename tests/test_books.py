import unittest

from heldpasts.books import Book
from heldpasts.errors import (Alike, Conflict, Ended, InvalidName, InvalidPlan, InvalidRow, InvalidSchema, Missing,
                              NoIndex, NoTable, Taken, TooLong)
from heldpasts.keys import row_code
from heldpasts.schemas import schema_text
from heldpasts.tables import row_key, schema_key, table_stretches
from heldpasts.tree import entry_room
from tests.books import fresh_book, fresh_versions
from tests.helpers import WRONG_TEXTS, Case
from tests.rows import SCHEMA
from tests.test_conditions import WRONG_ROWS
from tests.test_holds import WRONG_NAMES
from tests.test_schemas import WRONG_SCHEMAS
from tests.test_sessions import state_of_session

OTHER = ("u", (("k", "text", False),), ("k",), (), ())
ROWS = [(1, "a", True), (2, None, None), (3, "b", True), (5, "c", False)]


class BookCase(Case):
    def setUp(self):
        self.book = fresh_book(OTHER, SCHEMA)
        self.session = self.book.session
        for row in ROWS:
            self.book.add("t", row)

    def unchanged(self, kind, call, *members, **names):
        """The call raises just this error and changes nothing of the session."""
        before = state_of_session(self.session)
        error = self.refused(kind, call, *members, **names)
        self.assertEqual(state_of_session(self.session), before)
        return error

    def begin_anew(self):
        """All is committed, and the book is that of a new session: its changes and guards are its own alone."""
        versions = self.session.versions
        self.session.commit()
        self.session = versions.begin()
        self.book = Book(self.session)
        return versions

    def lain(self, call, *members, **names):
        """What one call lays into the session's own changes, and what it guards."""
        self.begin_anew()
        self.assertIsNone(call(self.book, *members, **names))
        return self.session.changes, self.session.guards


class ReadTest(BookCase):
    def test_example(self):
        schema = ("t", (("a", "int", False), ("b", "text", True)), ("a",), (("ib", ("b",), True),), ())
        book = Book(session=fresh_versions(signs=800).begin())
        self.assertEqual([book.make(schema), book.add("t", (1, "x")), book.add("t", (2, None)),
                          book.entries_of("t", "ib")], [None, None, None, [(("x",), (1,))]])
        self.assertEqual(self.refused(Taken, book.add, "t", (3, "x")).word, "ib")

    def test_tables(self):
        self.assertEqual(self.book.tables(), ("t", "u"))
        self.assertEqual(fresh_book().tables(), ())
        for name in ("b", "zz", "aa", "a"):
            self.book.make((name,) + OTHER[1:])
        self.assertEqual(self.book.tables(), ("a", "aa", "b", "t", "u", "zz"))
        self.assertEqual(self.book.schema("t"), SCHEMA)
        self.assertEqual(self.book.schema(name="aa"), ("aa",) + OTHER[1:])

    def test_rows(self):
        self.assertEqual(self.book.rows_of("t"), ROWS)
        self.assertEqual(self.book.rows_of(name="u"), [])
        self.assertEqual([self.book.row_at("t", (key,)) for key in range(1, 6)], ROWS[:3] + [None, ROWS[3]])
        self.assertEqual(self.book.row_at(name="t", key_values=(2,)), ROWS[1])
        for key in ((), ("1",), (True,), (1, 1), (None,), ("x" * 200,)):
            self.assertIsNone(self.book.row_at("t", key))
        self.book.rows_of("t").clear()
        self.assertEqual(self.book.rows_of("t"), ROWS)

    def test_rows_ascend_by_key(self):
        schema = ("v", (("a", "int", False), ("b", "text", False), ("c", "truth", False)), ("b", "c", "a"), (), ())
        self.book.make(schema)
        rows = [(5, "", True), (-10, " ", False), (-9, " ", False), (0, " ", False), (9, " ", False), (10, " ", False),
                (-1, " ", True), (3, "!", False), (1, "a", False), (-99, "a b", False), (2, "ab", False)]
        for row in rows[::2] + rows[1::2]:
            self.book.add("v", row)
        self.assertEqual(self.book.rows_of("v"), rows)
        keys = [(b, c, a) for a, b, c in rows]
        self.assertEqual(self.book.keys_through("v", ("all",)), keys)

    def test_entries_of(self):
        self.assertEqual(self.book.entries_of("t", "ia"), [(("a",), (1,)), (("b",), (3,)), (("c",), (5,))])
        self.assertEqual(self.book.entries_of(name="t", index_name="ib"), [
            ((None, None), (2,)), ((False, "c"), (5,)), ((True, "a"), (1,)), ((True, "b"), (3,))])
        self.book.entries_of("t", "ia").clear()
        self.assertEqual(len(self.book.entries_of("t", "ia")), 3)
        self.assertEqual(self.unchanged(NoIndex, self.book.entries_of, "t", "ic").name, "ic")
        self.assertEqual(self.unchanged(NoIndex, self.book.entries_of, "u", "ia").name, "ia")
        self.assertEqual(self.unchanged(NoIndex, self.book.entries_of, "t", "key").name, "key")

    def test_elder_pasts(self):
        versions = self.begin_anew()
        self.book.drop("u")
        self.book.take("t", (1,))
        self.book.take_index("t", "ib")
        self.session.commit()
        elder, newer, first = Book(versions.begin(at=1)), Book(versions.begin()), Book(versions.begin(at=0))
        self.assertEqual((elder.tables(), newer.tables(), first.tables()), (("t", "u"), ("t",), ()))
        self.assertEqual((elder.rows_of("t"), newer.rows_of("t")), (ROWS, ROWS[1:]))
        self.assertEqual(len(elder.entries_of("t", "ib")), 4)
        self.refused(NoIndex, newer.entries_of, "t", "ib")
        self.refused(NoTable, first.rows_of, "t")


class KeysThroughTest(BookCase):
    def test_all(self):
        self.assertEqual(self.book.keys_through(name="t", plan=("all",)), [(1,), (2,), (3,), (5,)])
        self.assertEqual(self.book.keys_through("u", ("all",)), [])

    def test_by_the_key(self):
        codes = {key: row_code((key,)) for key in range(7)}
        through = self.book.keys_through
        self.assertEqual(through("t", ("key", None, None)), [(1,), (2,), (3,), (5,)])
        self.assertEqual(through("t", ("key", "", None)), [(1,), (2,), (3,), (5,)])
        for low in range(7):
            for high in range(7):
                inside = [(key,) for key in (1, 2, 3, 5) if low <= key < high]
                self.assertEqual(through("t", ("key", codes[low], codes[high])), inside)
            self.assertEqual(through("t", ("key", codes[low], None)), [(key,) for key in (1, 2, 3, 5) if low <= key])
            self.assertEqual(through("t", ("key", None, codes[low])), [(key,) for key in (1, 2, 3, 5) if key < low])
        for low, high in (("", ""), (None, ""), ("~", None), ("q", "p"), ("pA1", "pA1"), ("pA11", "pA2")):
            self.assertEqual(through("t", ("key", low, high)), [])
        self.assertEqual(through("t", ("key", "pA", "pA1~")), [(1,)])
        self.assertEqual(through("t", ("key", " ", "~" * 300)), [(1,), (2,), (3,), (5,)])

    def test_by_an_index(self):
        through = self.book.keys_through
        self.assertEqual(through("t", ("index", "ia", None, None)), [(1,), (3,), (5,)])
        self.assertEqual(through("t", ("index", "ia", "tb ", None)), [(3,), (5,)])
        self.assertEqual(through("t", ("index", "ia", "ta", "tb!")), [(1,), (3,)])
        self.assertEqual(through("t", ("index", "ia", None, "tb ")), [(1,)])
        self.assertEqual(through("t", ("index", "ib", None, None)), [(2,), (5,), (1,), (3,)])
        self.assertEqual(through("t", ("index", "ib", "1", None)), [(5,), (1,), (3,)])
        self.assertEqual(through("t", ("index", "ib", "2ta pA0", "2tb pA3")), [(1,)])
        self.assertEqual(through("t", ("index", "ib", "2ta pA1", "2tb pA4")), [(1,), (3,)])
        self.assertEqual(through("t", ("index", "ib", "", "")), [])

    def test_own_changes(self):
        self.begin_anew()
        self.book.take("t", (3,))
        self.book.add("t", (4, "bb", True))
        self.assertEqual(self.book.keys_through("t", ("key", "pA2", None)), [(2,), (4,), (5,)])
        self.assertEqual(self.book.keys_through("t", ("index", "ia", "tb ", None)), [(4,), (5,)])

    def test_no_plan(self):
        plans = [None, True, 0, "", "all", (), [], {}, ["all"], ("all", None, None), ("All",), ("key",), ("key", None),
                 ("key", None, None, None), ["key", None, None], ("index",), ("index", "ia"), ("index", None, None),
                 ("index", "ia", None), ("index", "ia", None, None, None), ("index", "ic", None, None),
                 ("index", "key", None, None), ("index", None, None, None), ("index", ["ia"], None, None),
                 ("index", ("ia",), None, None), ("row", None, None), ("Index", "ia", None, None),
                 ("key", "ia", None, None), ("all", "ia", None, None), (None, None, None), (["all"],), (("all",),)]
        for text in WRONG_TEXTS:
            if text is not None:
                plans += [("key", text, None), ("key", None, text), ("index", "ia", text, None),
                          ("index", "ia", None, text)]
        for plan in plans:
            self.unchanged(InvalidPlan, self.book.keys_through, "t", plan)
            self.assertEqual(self.unchanged(NoTable, self.book.keys_through, "x", plan).name, "x")
        self.unchanged(InvalidPlan, self.book.keys_through, "u", ("index", "ia", None, None))


class MakeTest(BookCase):
    def test_make(self):
        schema = ("v",) + SCHEMA[1:]
        changes, guards = self.lain(Book.make, schema=schema)
        self.assertEqual((changes, guards), (((schema_key("v"), schema_text(schema)),), table_stretches("v")))
        self.assertEqual((self.book.rows_of("v"), self.book.entries_of("v", "ia")), ([], []))

    def test_taken(self):
        self.assertEqual(self.unchanged(Taken, self.book.make, SCHEMA).word, "t")
        self.assertEqual(self.unchanged(Taken, self.book.make, ("t",) + OTHER[1:]).word, "t")
        for value in WRONG_SCHEMAS:
            self.unchanged(InvalidSchema, self.book.make, value)

    def test_drop(self):
        changes, guards = self.lain(Book.drop, name="t")
        self.assertEqual((len(changes), guards), (1 + 4 + 3 + 4, table_stretches("t")))
        self.assertTrue(all(value is None for _, value in changes))
        self.assertEqual((self.book.tables(), self.session.entries(None, None)),
                         (("u",), [(schema_key("u"), schema_text(OTHER))]))
        self.book.make(SCHEMA)
        self.assertEqual((self.book.rows_of("t"), self.book.entries_of("t", "ib")), ([], []))

    def test_tables_with_names_alike(self):
        for name in ("tt", "ta", "s", "r", "i"):
            self.book.make((name,) + SCHEMA[1:])
            self.book.add(name, (1, "a", True))
        self.book.drop("t")
        for name in ("tt", "ta", "s", "r", "i"):
            self.assertEqual(self.book.rows_of(name), [(1, "a", True)])
            self.assertEqual(self.book.entries_of(name, "ia"), [(("a",), (1,))])

    def test_a_schema_without_room(self):
        book = fresh_book(signs=200)
        long = ("t", tuple((name, "truth", False) for name in ("abcdefgh", "ijklmnop", "qrstuvwx")), ("abcdefgh",), (),
                ())
        self.session = book.session
        self.assertEqual(self.unchanged(TooLong, book.make, long).text, schema_key("t"))
        book.make(("t",) + OTHER[1:])
        self.assertEqual(self.unchanged(Taken, book.make, long).word, "t")


class AddTest(BookCase):
    def test_add(self):
        row = (4, "d", True)
        changes, guards = self.lain(Book.add, name="t", row=row)
        self.assertEqual(changes, (("ti tt tib 2td pA4", ""), ("tr tt pA4", row_code(row)), ("tu tt tia td ", "pA4")))
        self.assertEqual(guards, (("ts tt ", "ts tt!"),))
        changes, guards = self.lain(Book.add, "t", (6, None, None))
        self.assertEqual(changes, (("ti tt tib 00pA6", ""), ("tr tt pA6", row_code((6, None, None)))))

    def test_taken(self):
        self.assertEqual(self.unchanged(Taken, self.book.add, "t", (1, "z", None)).word, "key")
        self.assertEqual(self.unchanged(Taken, self.book.add, "t", (1, "a", None)).word, "key")
        self.assertEqual(self.unchanged(Taken, self.book.add, "t", (9, "a", None)).word, "ia")
        self.book.add("t", (9, None, None))
        self.book.add("t", (10, None, None))

    def test_the_first_index(self):
        schema = ("v", (("a", "int", False), ("b", "int", True), ("c", "int", True)), ("a",),
                  (("ia", ("b", "c"), True), ("ib", ("c",), True), ("ic", ("b",), False), ("id", ("b",), True)), ())
        self.book.make(schema)
        self.book.add("v", (1, 10, 20))
        self.book.add("v", (2, 11, None))
        for row, word in (((3, 10, 20), "ia"), ((3, 11, 20), "ib"), ((3, 12, 20), "ib"), ((3, 10, 21), "id"),
                          ((3, 11, None), "id"), ((1, 10, 20), "key"), ((3, None, 20), "ib")):
            self.assertEqual(self.unchanged(Taken, self.book.add, "v", row).word, word)
        self.book.add("v", (3, None, None))
        self.book.add("v", (4, None, None))
        self.book.add("v", (5, 12, 22))

    def test_rows_that_do_not_fit(self):
        for row in WRONG_ROWS + ((), (1, "a"), (4, "d", True, 1), ("4", "d", True), (None, "d", True), (100, "d", True),
                                 (4, "x", True), (True, "d", True), (4, 5, True)):
            self.unchanged(InvalidRow, self.book.add, "t", row)
            self.unchanged(InvalidRow, self.book.change, "t", (1,), row)
            self.unchanged(InvalidRow, self.book.change, "t", (77,), row)

    def test_room(self):
        book = fresh_book(OTHER, signs=500)
        self.session = book.session
        # The row's key in the tree has 21 signs besides its text, its code and the sign ahead of it 3.
        most = (entry_room(500) - 24) // 2
        book.add("u", ("k" * most,))
        self.assertEqual(self.unchanged(TooLong, book.add, "u", ("k" * (most + 1),)).text,
                         row_key(OTHER, ("k" * (most + 1),)))
        book.change("u", ("k" * most,), ("j" * most,))
        self.unchanged(TooLong, book.change, "u", ("j" * most,), ("j" * (most + 1),))
        self.assertEqual(book.rows_of("u"), [("j" * most,)])

    def test_the_first_key_without_room(self):
        indexes = (("i", ("b",), False), ("j", ("b",), True))
        schema = ("v", (("a", "int", False), ("b", "text", True)), ("a",), indexes, ())
        book = fresh_book(schema, signs=500)
        self.session = book.session
        self.assertEqual(self.unchanged(TooLong, book.add, "v", (1, "x" * 100)).text, "ti tv ti t" + "x" * 100 + " pA1")
        book.add("v", (1, None))
        self.assertEqual(self.unchanged(TooLong, book.change, "v", (1,), (1, "x" * 100)).text,
                         "ti tv ti t" + "x" * 100 + " pA1")
        self.assertEqual(self.unchanged(Taken, book.add, "v", (1, "x" * 100)).word, "key")
        book.take_index("v", "i")
        self.assertEqual(self.unchanged(TooLong, book.add, "v", (2, "x" * 100)).text, row_key(schema, (2,)))
        self.assertEqual(self.unchanged(Missing, book.change, "v", (3,), (3, "x" * 100)).row, (3,))


class ChangeTest(BookCase):
    def test_to_another_key(self):
        row = (4, "a", None)
        changes, guards = self.lain(Book.change, name="t", key_values=(1,), row=row)
        self.assertEqual(changes, (("ti tt tib 0ta pA4", ""), ("ti tt tib 2ta pA1", None), ("tr tt pA1", None),
                                   ("tr tt pA4", row_code(row)), ("tu tt tia ta ", "pA4")))
        self.assertEqual(guards, (("ts tt ", "ts tt!"),))
        self.assertEqual(self.book.rows_of("t"), [ROWS[1], ROWS[2], row, ROWS[3]])
        self.assertEqual(self.book.entries_of("t", "ia")[0], (("a",), (4,)))

    def test_to_the_same_key(self):
        row = (1, "z", True)
        changes, _ = self.lain(Book.change, "t", (1,), row)
        self.assertEqual(changes, (("ti tt tib 2ta pA1", None), ("ti tt tib 2tz pA1", ""), ("tr tt pA1", row_code(row)),
                                   ("tu tt tia ta ", None), ("tu tt tia tz ", "pA1")))
        # What stands so in the indexes is left aside.
        changes, _ = self.lain(Book.change, "t", (1,), (1, "z", None))
        self.assertEqual(changes, (("ti tt tib 0tz pA1", ""), ("ti tt tib 2tz pA1", None),
                                   ("tr tt pA1", row_code((1, "z", None)))))
        changes, _ = self.lain(Book.change, "t", (1,), (1, None, None))
        self.assertEqual(changes, (("ti tt tib 00pA1", ""), ("ti tt tib 0tz pA1", None),
                                   ("tr tt pA1", row_code((1, None, None))), ("tu tt tia tz ", None)))

    def test_to_its_own_values(self):
        changes, guards = self.lain(Book.change, "t", (3,), ROWS[2])
        self.assertEqual((changes, guards), (((row_key(SCHEMA, (3,)), row_code(ROWS[2])),), (("ts tt ", "ts tt!"),)))

    def test_missing(self):
        for key in ((4,), (), ("1",), (True,), (1, 1), (None,)):
            error = self.unchanged(Missing, self.book.change, "t", key, (1, "a", True))
            self.assertEqual(repr(error.row), repr(key))
            self.assertEqual(repr(self.unchanged(Missing, self.book.take, "t", key).row), repr(key))

    def test_taken(self):
        change = self.book.change
        self.assertEqual(self.unchanged(Taken, change, "t", (1,), (3, "a", None)).word, "key")
        self.assertEqual(self.unchanged(Taken, change, "t", (1,), (3, "b", None)).word, "key")
        self.assertEqual(self.unchanged(Taken, change, "t", (1,), (1, "b", None)).word, "ia")
        self.assertEqual(self.unchanged(Taken, change, "t", (1,), (7, "c", None)).word, "ia")
        self.assertEqual(self.unchanged(Missing, change, "t", (4,), (1, "a", None)).row, (4,))
        change("t", (2,), (2, "d", None))
        change("t", (1,), (7, None, None))

    def test_take(self):
        changes, guards = self.lain(Book.take, name="t", key_values=(1,))
        self.assertEqual(changes, (("ti tt tib 2ta pA1", None), ("tr tt pA1", None), ("tu tt tia ta ", None)))
        self.assertEqual(guards, (("ts tt ", "ts tt!"),))
        changes, _ = self.lain(Book.take, "t", (2,))
        self.assertEqual(changes, (("ti tt tib 00pA2", None), ("tr tt pA2", None)))
        self.assertEqual(self.book.rows_of("t"), ROWS[2:])

    def test_taken_and_added_again(self):
        self.begin_anew()
        self.book.take("t", (1,))
        self.book.add("t", ROWS[0])
        self.assertEqual((self.book.rows_of("t"), len(self.session.changes)), (ROWS, 3))
        self.book.take("t", (3,))
        self.book.change("t", (1,), (3, "b", True))
        self.assertEqual(self.book.entries_of("t", "ia"), [(("b",), (3,)), (("c",), (5,))])


class IndexTest(BookCase):
    def test_add_index(self):
        index = ("aa", ("c",), False)
        changes, guards = self.lain(Book.add_index, name="t", index=index)
        schema = SCHEMA[:3] + ((index,) + SCHEMA[3],) + SCHEMA[4:]
        self.assertEqual(changes, (("ti tt taa 0pA2", ""), ("ti tt taa 1pA5", ""), ("ti tt taa 2pA1", ""),
                                   ("ti tt taa 2pA3", ""), ("ts tt ", schema_text(schema))))
        self.assertEqual((guards, self.book.schema("t")), (table_stretches("t"), schema))
        self.assertEqual(self.book.entries_of("t", "aa"), [((None,), (2,)), ((False,), (5,)), ((True,), (1,)),
                                                           ((True,), (3,))])
        self.book.add_index("t", ("iaa", ("a", "b"), True))
        self.assertEqual([other[0] for other in self.book.schema("t")[3]], ["aa", "ia", "iaa", "ib"])
        self.assertEqual(self.book.entries_of("t", "iaa"), [((1, "a"), (1,)), ((3, "b"), (3,)), ((5, "c"), (5,))])
        self.assertEqual(self.unchanged(Taken, self.book.add, "t", (9, "a", None)).word, "ia")

    def test_alike(self):
        self.book.add("t", (7, "e", False))
        self.book.add("t", (0, None, None))
        error = self.unchanged(Alike, self.book.add_index, "t", ("ic", ("c",), True))
        self.assertEqual(error.pair, ((1,), (3,)))
        self.book.take("t", (1,))
        self.assertEqual(self.unchanged(Alike, self.book.add_index, "t", ("ic", ("c",), True)).pair, ((5,), (7,)))
        self.book.take("t", (7,))
        self.book.add_index("t", ("ic", ("c",), True))
        self.assertEqual(self.unchanged(Taken, self.book.add, "t", (8, None, True)).word, "ic")

    def test_the_first_of_several_that_are_alike(self):
        schema = ("v", (("a", "int", False), ("b", "int", True), ("c", "text", False)), ("c", "a"), (), ())
        self.book.make(schema)
        for row in ((9, 1, "b"), (1, 2, "c"), (2, 1, "c"), (3, 2, "d"), (0, 2, "e"), (5, 1, "e"), (0, None, "f"),
                    (1, None, "f")):
            self.book.add("v", row)
        error = self.unchanged(Alike, self.book.add_index, "v", ("i", ("b",), True))
        self.assertEqual(error.pair, (("b", 9), ("c", 2)))
        self.book.take("v", ("c", 2))
        self.assertEqual(self.unchanged(Alike, self.book.add_index, "v", ("i", ("b",), True)).pair,
                         (("c", 1), ("d", 3)))
        self.book.take("v", ("c", 1))
        self.assertEqual(self.unchanged(Alike, self.book.add_index, "v", ("i", ("b",), True)).pair,
                         (("d", 3), ("e", 0)))

    def test_indexes_that_are_none(self):
        for index in (None, True, 0, "", "ic", (), [], {}, ["ic", ("a",), True], ("ic", ("a",)),
                      ("ic", ("a",), True, None), ("key", ("a",), True), ("Ic", ("a",), True), (None, ("a",), True),
                      ("ic", (), True), ("ic", ("d",), True), ("ic", ("a", "a"), True), ("ic", ["a"], True),
                      ("ic", "a", True), ("ic", (["a"],), True), ("ic", ("a",), 1), ("ic", ("a",), None)):
            self.unchanged(InvalidSchema, self.book.add_index, "t", index)
            self.unchanged(NoTable, self.book.add_index, "x", index)
        self.assertEqual(self.unchanged(Taken, self.book.add_index, "t", ("ia", ("c",), True)).word, "ia")
        self.assertEqual(self.unchanged(Taken, self.book.add_index, "t", SCHEMA[3][1]).word, "ib")
        self.unchanged(InvalidSchema, self.book.add_index, "u", ("ia", ("a",), True))

    def test_take_index(self):
        changes, guards = self.lain(Book.take_index, name="t", index_name="ib")
        schema = SCHEMA[:3] + (SCHEMA[3][:1],) + SCHEMA[4:]
        self.assertEqual(changes[-1], ("ts tt ", schema_text(schema)))
        self.assertEqual((len(changes), {value for _, value in changes[:-1]}), (5, {None}))
        self.assertEqual((guards, self.book.schema("t")), (table_stretches("t"), schema))
        changes, _ = self.lain(Book.take_index, "t", "ia")
        self.assertEqual([key for key, _ in changes], ["ts tt ", "tu tt tia ta ", "tu tt tia tb ", "tu tt tia tc "])
        self.book.add("t", (9, "a", True))
        self.assertEqual(self.unchanged(NoIndex, self.book.take_index, "t", "ia").name, "ia")
        self.assertEqual(self.unchanged(NoIndex, self.book.take_index, "t", "key").name, "key")

    def test_a_schema_without_room(self):
        book = fresh_book(OTHER, signs=200)
        self.session = book.session
        error = self.unchanged(TooLong, book.add_index, "u", ("abcdefgh", ("k",), True))
        self.assertEqual(error.text, schema_key("u"))
        self.assertEqual(book.schema("u"), OTHER)


class ErrorTest(BookCase):
    CALLS = {"schema": ("t",), "drop": ("t",), "add": ("t", (9, None, None)), "change": ("t", (1,), (9, None, None)),
             "take": ("t", (1,)), "add_index": ("t", ("ic", ("c",), False)), "take_index": ("t", "ia"),
             "row_at": ("t", (1,)), "rows_of": ("t",), "entries_of": ("t", "ia"), "keys_through": ("t", ("all",))}

    def test_no_table(self):
        for name, members in self.CALLS.items():
            error = self.unchanged(NoTable, getattr(self.book, name), "x", *members[1:])
            self.assertEqual(error.name, "x")
        # Ahead of a row that does not fit, of a key that is missing, and of an index that is none.
        for call, members in ((self.book.add, ((),)), (self.book.change, ((), ())), (self.book.take, ((),)),
                              (self.book.take_index, ("q",)), (self.book.entries_of, ("q",))):
            self.unchanged(NoTable, call, "x", *members)

    def test_ended(self):
        self.session.commit()
        for name, members in list(self.CALLS.items()) + [("tables", ()), ("make", (OTHER,))]:
            self.unchanged(Ended, getattr(self.book, name), *members)
            if members and name != "make":
                self.unchanged(Ended, getattr(self.book, name), "x", *members[1:])
        for call, members in ((self.book.add, ((),)), (self.book.change, ((), ())), (self.book.add_index, (None,)),
                              (self.book.keys_through, (None,))):
            self.unchanged(Ended, call, "t", *members)
        self.look_at_wrong_arguments()

    def test_wrong_arguments(self):
        self.look_at_wrong_arguments()

    def look_at_wrong_arguments(self):
        for wrong in WRONG_NAMES:
            for name, members in self.CALLS.items():
                self.unchanged(InvalidName, getattr(self.book, name), wrong, *members[1:])
                self.unchanged(InvalidName, getattr(self.book, name), wrong, *[None] * (len(members) - 1))
            for call in (self.book.take_index, self.book.entries_of):
                self.unchanged(InvalidName, call, "t", wrong)
                self.unchanged(InvalidName, call, "x", wrong)
        for wrong in WRONG_ROWS:
            for name in ("t", "x"):
                for call, members in ((self.book.add, ()), (self.book.take, ()), (self.book.row_at, ()),
                                      (self.book.change, ((1,),))):
                    self.unchanged(InvalidRow, call, name, *members, wrong)
                self.unchanged(InvalidRow, self.book.change, name, wrong, (1, "a", True))
        for wrong in WRONG_SCHEMAS:
            self.unchanged(InvalidSchema, self.book.make, wrong)


class SideBySideTest(BookCase):
    def crossed(self, one_does, other_does):
        """Whether the one that commits later meets a conflict, for either sequence."""
        told = []
        for turned in (False, True):
            self.setUp()
            versions = self.begin_anew()
            books = [Book(versions.begin()), Book(versions.begin())]
            one_does(books[0])
            other_does(books[1])
            if turned:
                books.reverse()
            books[0].session.commit()
            try:
                books[1].session.commit()
                told.append(False)
            except Conflict:
                told.append(True)
        return tuple(told)

    def test_rows_of_one_table(self):
        self.assertEqual(self.crossed(lambda book: book.add("t", (7, "p", True)),
                                      lambda book: book.add("t", (8, "q", True))), (False, False))
        self.assertEqual(self.crossed(lambda book: book.add("t", (7, "p", True)),
                                      lambda book: book.add("t", (7, "q", True))), (True, True))
        # The same values of an index that is alone.
        self.assertEqual(self.crossed(lambda book: book.add("t", (7, "p", True)),
                                      lambda book: book.add("t", (8, "p", True))), (True, True))
        self.assertEqual(self.crossed(lambda book: book.change("t", (1,), ROWS[0]),
                                      lambda book: book.take("t", (1,))), (True, True))

    def test_the_table_itself(self):
        deeds = [lambda book: book.drop("t"), lambda book: book.add_index("t", ("ic", ("c",), False)),
                 lambda book: book.take_index("t", "ib")]
        rows = [lambda book: book.add("t", (7, None, None)), lambda book: book.take("t", (2,)),
                lambda book: book.change("t", (2,), (2, None, None))]
        for deed in deeds:
            for row in rows:
                self.assertEqual(self.crossed(deed, row), (True, True))
            for other in deeds:
                self.assertEqual(self.crossed(deed, other), (True, True))
        self.assertEqual(self.crossed(lambda book: book.make(("v",) + OTHER[1:]),
                                      lambda book: book.make(("v",) + SCHEMA[1:])), (True, True))
        self.assertEqual(self.crossed(deeds[0], lambda book: book.drop("u")), (False, False))
        self.assertEqual(self.crossed(deeds[0], lambda book: book.add("u", ("x",))), (False, False))


if __name__ == "__main__":
    unittest.main()
