from random import Random
import unittest

from heldpasts.errors import InvalidCommand, Refused
from heldpasts.script_texts import command_text, command_told, value_text
from tests.helpers import Case
from tests.rows import deep
from tests.scripts import SHAPES, first_wrong, pieces_by_chance, plain_command, value_by_chance

NO_STRINGS = (None, True, False, 0, 7, (), ("sync",), [], ["sync"], {}, ("begin", "a"))
BIG = "9" * 30
FULL = "''" * 200
TOLD = (
    ("begin a", ("begin", "a")), ("serial abcdefgh", ("serial", "abcdefgh")), ("past a 0", ("past", "a", 0)),
    ("past none 99999999", ("past", "none", 99999999)), ("commit z", ("commit", "z")), ("later a", ("later", "a")),
    ("drop a", ("drop", "a")), ("prepare a b", ("prepare", "a", "b")), ("settle b", ("settle", "b")),
    ("letgo b", ("letgo", "b")), ("sync", ("sync",)), ("checkpoint", ("checkpoint",)), ("order", ("order",)),
    ("state", ("state",)), ("vacuum 10", ("vacuum", 10)), ("put a '' ' ~!'", ("put", "a", "", " ~!")),
    ("put a '" + FULL + "' '" + "x" * 200 + "'", ("put", "a", "'" * 200, "x" * 200)), ("take a ''''", ("take", "a", "'")),
    ("get a 'none'", ("get", "a", "none")), ("range a none none", ("range", "a", None, None)),
    ("range a 'x' none", ("range", "a", "x", None)), ("range a none 'y'", ("range", "a", None, "y")),
    ("untable a t", ("untable", "a", "t")), ("unindex a t i", ("unindex", "a", "t", "i")),
    ("index a t i ( b )", ("index", "a", "t", "i", ("b",), False)),
    ("index a t i ( b , b ) alone", ("index", "a", "t", "i", ("b", "b"), True)), ("add a t ( )", ("add", "a", "t", ())),
    ("add a t ( none , true , false , 0 , -1 , " + BIG + " , -" + BIG + " , 'x' )",
     ("add", "a", "t", (None, True, False, 0, -1, int(BIG), -int(BIG), "x"))),
    ("change a t ( 1 ) ( 2 )", ("change", "a", "t", (1,), (2,))), ("remove a t ( '' )", ("remove", "a", "t", ("",))),
    ("row a t ( 1 , 2 )", ("row", "a", "t", (1, 2))),
    ("table a t ( b int ) key ( b )", ("table", "a", ("t", (("b", "int", False),), ("b",), (), ()))),
    ("table a t ( b int free , c text , c truth free ) key ( c , b , c ) check none b check not is c 'x'",
     ("table", "a", ("t", (("b", "int", True), ("c", "text", False), ("c", "truth", True)), ("c", "b", "c"), (),
                     (("none", "b"), ("not", ("is", "c", "x")))))),
    ("look a t", ("look", "a", ("t", None, None, (), None))),
    ("look a t order ( )", ("look", "a", ("t", None, None, (), None))),
    ("look a t give ( )", ("look", "a", ("t", None, (), (), None))),
    ("look a t give ( b ) order ( c down ) most 0", ("look", "a", ("t", None, ("b",), (("c", True),), 0))),
    ("plan a t where most b 1 most 2", ("plan", "a", ("t", ("most", "b", 1), None, (), 2))),
    ("look a t where or less b none none c order ( down down , down )",
     ("look", "a", ("t", ("or", ("less", "b", None), ("none", "c")), None, (("down", True), ("down", False)), None))))
# Commands that are spoilt, each with the index of the first sign at which none goes on.
SPOILT = (
    ("", 0), (" ", 0), (" sync", 0), ("Sync", 0), ("sync ", 4), ("syncs", 4), ("s", 1), ("st", 2), ("stx", 2), ("x", 0),
    ("begin", 5), ("begin ", 6), ("begin  a", 6), ("begin a ", 7), ("begin a b", 7), ("begin A", 6), ("begin a1", 7),
    ("begin abcdefghi", 14), ("begin abcdefgh ", 14), ("begin\u00e9", 5), ("begin \u00e9", 6), ("begin\ta", 5),
    ("past a", 6), ("past a ", 7), ("past a 00", 8), ("past a 01", 8), ("past a 123456789", 15), ("past a -1", 7),
    ("past a +1", 7), ("past a 1 ", 8), ("past a x", 7), ("past a '1'", 7), ("vacuum 1.", 8), ("sync\n", 4),
    ("put a x", 6), ("put a 'x", 8), ("put a 'x'", 9), ("put a 'x' ", 10), ("put a 'x' 'y", 12), ("put a 'x' 'y''", 14),
    ("put a 'x''y'", 12), ("put a 'x'y", 9), ("put a 'x' none", 10), ("put a '" + FULL + "x", 407),
    ("put a '" + "x" * 201 + "' ''", 207), ("put a '" + "x" * 200 + "'' ''", 208), ("put a '\n' ''", 7),
    ("put a '\u00e9' ''", 7), ("put a '\x7f' ''", 7), ("range a nonex", 12), ("range a nox", 10), ("range a 'x' n", 13),
    ("add a t", 7), ("add a t (", 9), ("add a t ()", 9), ("add a t ( ", 10), ("add a t (  )", 10), ("add a t ( 1", 11),
    ("add a t ( 1 ", 12), ("add a t ( 1 2 )", 12), ("add a t ( 1, 2 )", 11), ("add a t ( 1 , )", 14),
    ("add a t ( 1 ,2 )", 13), ("add a t ( 1 ) )", 13), ("add a t ( -0 )", 11), ("add a t ( - 1 )", 11),
    ("add a t ( 00 )", 11), ("add a t ( " + BIG + "9 )", 40), ("add a t ( -" + BIG + "9 )", 41), ("add a t ( tru )", 13),
    ("add a t ( True )", 10), ("add a t ( nul )", 11), ("add a t ( x )", 10), ("add a t 1", 8), ("add a t [ 1 ]", 8),
    ("index a t i ( )", 14), ("index a t i ( b ) ", 18), ("index a t i ( b ) along", 22), ("index a t i ( b ) alone ", 23),
    ("index a t i ( b down )", 16), ("index a t i b", 12), ("index a t i ( b )alone", 17),
    ("table a t ( ) key ( b )", 12), ("table a t ( b ) key ( b )", 14), ("table a t ( b integer ) key ( b )", 17),
    ("table a t ( b int fre ) key ( b )", 21), ("table a t ( b int free free ) key ( b )", 23),
    ("table a t ( b int down ) key ( b )", 18), ("table a t ( b int ) ( b )", 20), ("table a t ( b int ) key ( )", 26),
    ("table a t ( b int ) key ( b ) check", 35), ("table a t ( b int ) key ( b ) where none b", 30),
    ("table a t ( b int ) key ( b ) check none b x", 43), ("table a t ( b int ) key ( b ) check none b check is b", 53),
    ("look a", 6), ("look a t ", 9), ("look a t x", 9), ("look a t where", 14), ("look a t where none", 19),
    ("look a t where none b none c", 22), ("look a t where is b", 19), ("look a t where xor", 15),
    ("look a t where isnt b 1", 17), ("look a t give ( b ) where none b", 20), ("look a t most 2 most 3", 15),
    ("look a t order ( b ) give ( b )", 21), ("look a t order ( b up )", 19), ("look a t order ( b down down )", 24),
    ("look a t give ( b down )", 18), ("look a t most", 13), ("look a t most -1", 14), ("look a t most none", 14),
    ("look a t where not none b give b", 31), ("look a t most 1 where none b", 15), ("settle a b", 8), ("order by", 5),
    ("look a t where " + "not " * 12 + "none b", 61), ("look a t where " + "not " * 11 + "and none b none c", 59),
    ("look a t where " + "or none b " * 12 + "none c", 125), ("look a t where " + "and " * 12 + "none b", 59),
    ("look a t where " + "or " * 11 + "none b" + " none c" * 10, 124))


def same(one, other):
    """Whether two values are the same, in kind, too, all the way down."""
    return repr(one) == repr(other)


class ToldTest(Case):
    def test_examples(self):
        self.assertEqual([command_told("put a 'it''s' ''"),
                          command_told("look a t where and is b 1 none c order ( b down , c ) most 2")],
                         [("put", "a", "it's", ""), ("look", "a", ("t", ("and", ("is", "b", 1), ("none", "c")), None,
                                                                 (("b", True), ("c", False)), 2))])
        self.assertEqual(command_text(("index", "a", "t", "i", ("b", "c"), True)), "index a t i ( b , c ) alone")
        self.assertEqual(self.refused(InvalidCommand, command_told, "add a t ( 1 , 02 )").index, 15)

    def test_each_command(self):
        for command, pieces in TOLD:
            self.assertTrue(same(command_told(command=command), pieces), command)
        self.assertEqual({pieces[0] for _, pieces in TOLD}, {shape[0] for shape in SHAPES})

    def test_twelve_deep(self):
        for condition in (deep(12), deep(12, ("is", "abcdefgh", None))):
            command = plain_command(("look", "a", ("t", condition, None, (), None)))
            self.assertEqual(command_told(command)[2][1], condition)
            self.assertEqual(command_text(command_told(command)), command)
        left = "look a t where " + "or " * 11 + "none b" + " none c" * 11
        self.assertEqual(command_text(command_told(left)), left)
        self.assertEqual(command_told("look a t where " + "or none b " * 11 + "none c")[2][1][2][2][0], "or")

    def test_spoilt_ones(self):
        for command, index in SPOILT:
            self.assertEqual(self.refused(InvalidCommand, command_told, command).index, index, command)
            if len(command) < 99:
                self.assertEqual(first_wrong(command), index, command)

    def test_no_strings(self):
        for value in NO_STRINGS:
            self.assertEqual(self.refused(InvalidCommand, command_told, value).index, 0)

    def test_each_beginning(self):
        for command, _ in TOLD:
            for size in range(len(command)) if len(command) < 200 else (1, 100, 203, 206, 207, 406, 407, 408):
                try:
                    command_told(command[:size])
                except InvalidCommand as error:
                    self.assertEqual(error.index, size, command[:size])

    def test_a_sign_more_less_or_another_one(self):
        """At each place of each command, against the grammar."""
        chance = Random(1)
        wrong = right = 0
        for _ in range(1500):
            command = plain_command(pieces_by_chance(chance))
            at = chance.randrange(len(command) + 1)
            sign = chance.choice("abdeklnot 01239'',()-~X\n\u00e9" + command)
            for spoilt in (command[:at] + sign + command[at:], command[:at] + command[at + 1:],
                           command[:at] + sign + command[at + 1:]):
                index = first_wrong(spoilt)
                if index is None:
                    right += 1
                    self.assertIsNone(first_wrong(command_text(command_told(spoilt))))
                else:
                    wrong += 1
                    self.assertEqual(self.refused(InvalidCommand, command_told, spoilt).index, index, spoilt)
        self.assertGreater(min(wrong / 4, right), 300)

    def test_long_commands(self):
        row = tuple(range(2500))
        self.assertEqual(command_told(plain_command(("add", "a", "t", row))), ("add", "a", "t", row))
        order = tuple(("abcdefgh", True) for _ in range(1200))
        self.assertEqual(command_told(plain_command(("look", "a", ("t", None, None, order, 1))))[2][3], order)


class TextTest(Case):
    def test_each_command(self):
        for command, pieces in TOLD:
            text = command if command != "look a t order ( )" else "look a t"
            self.assertEqual(command_text(pieces=pieces), text)

    def test_both_ways(self):
        chance = Random(2)
        for _ in range(3000):
            pieces = pieces_by_chance(chance)
            text = plain_command(pieces)
            self.assertEqual(command_text(pieces), text)
            self.assertTrue(same(command_told(text), pieces), text)

    def test_what_no_command_tells(self):
        question, schema = ("t", None, None, (), None), ("t", (("b", "int", False),), ("b",), (), ())
        wrong = [None, True, 0, "", "sync", [], {}, (), ["sync"], (("sync",),), ("Sync",), (None,), ("sync", ()),
                 ("begin",), ("begin", "a", "b"), ("begin", ""), ("begin", "A"), ("begin", "abcdefghi"), ("begin", None),
                 ("past", "a", -1), ("past", "a", True), ("past", "a", 10 ** 8), ("past", "a", "1"), ("past", "a", None),
                 ("put", "a", "x", None), ("put", "a", "\n", ""), ("put", "a", "x" * 201, ""), ("put", "a", 1, ""),
                 ("range", "a", None, 1), ("range", "a", "x" * 201, None), ("range", "a", "\x7f", None),
                 ("add", "a", "t", [1]), ("add", "a", "t", None), ("add", "a", "t", ((1,),)), ("add", "a", "t", 1),
                 ("add", "a", "t", (10 ** 30,)), ("add", "a", "t", ("x" * 201,)), ("add", "a", "t", ("\n",)),
                 ("index", "a", "t", "i", ("b",)), ("index", "a", "t", "i", (), True), ("index", "a", "t", "i", ["b"],
                                                                                      True),
                 ("index", "a", "t", "i", ("b",), 1), ("index", "a", "t", "i", ("b",), None),
                 ("index", "a", "t", "i", ("B",), False), ("index", "a", "t", "i", "b", False)]
        for spoilt in ((None,) + question[1:], question[:4], list(question), question + (None,),
                       ("t", ("none", "B"), None, (), None), ("t", ("none",), None, (), None),
                       ("t", ("none", "b", 1), None, (), None), ("t", ("is", "b"), None, (), None),
                       ("t", ("is", "b", ()), None, (), None), ("t", ("nor", "b", 1), None, (), None),
                       ("t", ("not", None), None, (), None), ("t", ("and", ("none", "b")), None, (), None),
                       ("t", ["none", "b"], None, (), None), ("t", deep(13), None, (), None), ("t", (), None, (), None),
                       ("t", None, ["b"], (), None), ("t", None, ("b", None), (), None), ("t", None, "b", (), None),
                       ("t", None, None, None, None), ("t", None, None, [], None), ("t", None, None, (("b",),), None),
                       ("t", None, None, (("b", 1),), None), ("t", None, None, (["b", True],), None),
                       ("t", None, None, (("B", True),), None), ("t", None, None, ("b",), None),
                       ("t", None, None, (), -1), ("t", None, None, (), 10 ** 8), ("t", None, None, (), False)):
            wrong += [("look", "a", spoilt), ("plan", "a", spoilt)]
        for spoilt in (schema[:4], list(schema), schema + ((),), ("T",) + schema[1:], ("t", ()) + schema[2:],
                       ("t", [("b", "int", False)]) + schema[2:], ("t", (("b", "int"),)) + schema[2:],
                       ("t", (("b", "int", 0),)) + schema[2:], ("t", (("b", "real", False),)) + schema[2:],
                       ("t", (("B", "int", False),)) + schema[2:], ("t", (["b", "int", False],)) + schema[2:],
                       schema[:2] + ((), (), ()), schema[:2] + (["b"], (), ()), schema[:2] + ((1,), (), ()),
                       schema[:3] + ((("i", ("b",), True),), ()), schema[:3] + ([], ()), schema[:3] + (None, ()),
                       schema[:4] + (None,), schema[:4] + ([],), schema[:4] + ((None,),),
                       schema[:4] + ((deep(13),),), schema[:4] + (("none", "b"),)):
            wrong.append(("table", "a", spoilt))
        for pieces in wrong:
            with self.subTest(pieces=pieces):
                self.refused(Refused, command_text, pieces)

    def test_spoilt_at_each_place(self):
        """What is told of spoilt pieces tells just these again."""
        chance = Random(3)
        refused = 0
        for _ in range(3000):
            pieces = self.spoilt(chance, pieces_by_chance(chance))
            try:
                text = command_text(pieces)
            except Refused:
                refused += 1
                continue
            self.assertTrue(same(command_told(text), pieces), pieces)
        self.assertTrue(500 < refused < 2900, refused)

    def spoilt(self, chance, value):
        """A value with something in it exchanged, left out or put in."""
        if isinstance(value, tuple) and value and chance.randrange(4):
            at = chance.randrange(len(value))
            word = chance.randrange(8)
            if word == 0:
                return value[:at] + value[at + 1:]
            if word == 1:
                return value[:at] + (value_by_chance(chance),) + value[at:]
            return value[:at] + (self.spoilt(chance, value[at]),) + value[at + 1:]
        return chance.choice((None, True, 1, 0, "a", "b", "", (), ("a",), [], list(value) if isinstance(
            value, tuple) else {}, value_by_chance(chance)))


class ValueTest(Case):
    def test_values(self):
        for value, text in ((None, "none"), (True, "true"), (False, "false"), (0, "0"), (-7, "-7"), (1, "1"),
                            (int(BIG), BIG), (-int(BIG), "-" + BIG), ("", "''"), ("none", "'none'"), ("'", "''''"),
                            ("it's 'so'", "'it''s ''so'''"), ("x" * 200, "'" + "x" * 200 + "'")):
            self.assertEqual(value_text(value=value), text)
            self.assertTrue(same(command_told("add a t ( " + text + " )")[3], (value,)))

    def test_nothing_is_raised(self):
        for value in (10 ** 89, -10 ** 89, "x" * 20000, (), (1,), [], ["x"], {}):
            value_text(value)


if __name__ == "__main__":
    unittest.main()
