from random import Random
import unittest

from heldpasts.errors import InvalidCode, InvalidRow, InvalidSchema, InvalidText
from heldpasts.keys import row_code, values_told
from heldpasts.schemas import fits, is_schema, key_of, schema_text, schema_told
from tests.helpers import WRONG_TEXTS, Case, exchanged
from tests.rows import (SCHEMA, VALUES, WRONG_VALUES, condition_by_chance, deep, plain_fits, row_by_chance,
                        schema_by_chance, values_at)
from tests.test_conditions import WRONG_ROWS
from tests.test_holds import WRONG_NAMES

A, B, C = SCHEMA[1]
SMALL = ("t", (A,), ("a",), (), ())


def spoilt(part, value):
    """The schema with another value in the place of one part."""
    return SCHEMA[:part] + (value,) + SCHEMA[part + 1:]


WRONG_SCHEMAS = [None, True, 0, "", "t", (), [], {}, list(SCHEMA), SCHEMA[:4], SCHEMA + ((),)]
WRONG_SCHEMAS += [spoilt(0, name) for name in WRONG_NAMES]
WRONG_SCHEMAS += [spoilt(1, columns) for columns in (
    None, "abc", [A, B, C], (), {}, (A, B), (A, B, C, A), (A, B, C, ("b", "int", False)), (A, B, ("c", "truth")),
    (A, B, C + (True,)), (A, B, list(C)), (A, B, "c"), (A, B, None), (A, B, ("C", "truth", True)),
    (A, B, ("c", "Truth", True)), (A, B, ("c", "", True)), (A, B, ("c", None, True)), (A, B, ("c", ["int"], True)),
    (A, B, ("c", "truth", None)), (A, B, ("c", "truth", 1)), (A, B, (None, "truth", True)),
    (A, B, C) + tuple((name, "int", True) for name in "efghij"), (("a", "int", True), B, C))]
WRONG_SCHEMAS += [("t", (A, column), ("a",), (), ()) for column in (
    ("C", "int", True), ("", "int", True), (1, "int", True), (None, "int", True), ("abcdefghi", "int", True),
    ("a", "int", True), ("c", "int", 0), ("c", "ints", True), ["c", "int", True], ("c", "int", True, True),
    ([], "int", True))]
WRONG_SCHEMAS += [spoilt(2, key) for key in (None, (), "a", ["a"], {}, ("a", "a"), ("b",), ("a", "b"), ("d",), (None,),
                                             (("a",),), (["a"],), ("",), (1,))]
WRONG_SCHEMAS += [spoilt(3, indexes) for indexes in (
    None, "", [], {}, list(SCHEMA[3]), SCHEMA[3][::-1], SCHEMA[3] + SCHEMA[3][1:], SCHEMA[3][:1] * 2,
    (("key", ("a",), True),), (("ia", ("a",)),), (("ia", ("a",), True, ()),), (["ia", ("a",), True],), ("ia",), (None,),
    (("Ia", ("a",), True),), ((None, ("a",), True),), (("ia", (), True),), (("ia", ("d",), True),),
    (("ia", ("a", "a"), True),), (("ia", ["a"], True),), (("ia", "a", True),), (("ia", None, True),),
    (("ia", ("a",), 1),), (("ia", ("a",), None),), (("ia", (["a"],), True),),
    (("ia", ("a",), True), ("key", ("a",), True)))]
WRONG_SCHEMAS += [spoilt(4, checks) for checks in (
    None, "", [], {}, list(SCHEMA[4]), (None,), ((),), (("none", "d"),), (("less", "a"),), (("less", "a", ()),),
    (("none", "a"),) * 5, (deep(13),), ("none", "a"), (["none", "a"],), (SCHEMA[4][0], None))]


class IsSchemaTest(Case):
    def test_schemas(self):
        nine = tuple((name, "int", name > "c") for name in "abcdefgh")
        for value in (SCHEMA, SMALL, ("abcdefgh", nine, ("c", "a", "b"), (), ()), spoilt(3, ()), spoilt(4, ()),
                      spoilt(4, (deep(12),)), spoilt(4, (("is", "a", "x"), ("most", "b", None), ("none", "c"),
                                                         ("less", "c", 5))),
                      spoilt(1, (A, B, ("c", "text", False))),
                      spoilt(3, (("a", ("a", "c", "b"), False), ("aa", ("b",), True), ("keys", ("c",), False))),
                      (SCHEMA[0], (A, ("b", "text", False), C), ("b", "a"), (), ())):
            self.assertIs(is_schema(value=value), True, value)

    def test_any_other_value(self):
        for value in WRONG_SCHEMAS + [10 ** 89, SCHEMA[0], SCHEMA[1], (SCHEMA,)]:
            self.assertIs(is_schema(value), False, value)

    def test_by_chance(self):
        for seed in range(300):
            schema = schema_by_chance(Random(seed))
            self.assertIs(is_schema(schema), True)
            doubled = schema[:3] + (schema[3] + schema[3][:1],) + schema[4:]
            self.assertIs(is_schema(doubled), not schema[3])


class FitsTest(Case):
    def test_kinds(self):
        for row in ((1, "a", True), (-5, None, None), (99, "", False), (0, "x" * 200, None)):
            self.assertIs(fits(schema=SCHEMA, value=row), True)
        for row in ((True, "a", True), ("1", "a", True), (None, "a", True), (1, 1, True), (1, "a", 1), (1, "a", 0),
                    (1, False, None), (10 ** 30, "a", None), (1, "x" * 201, None), (1, "\n", None)):
            self.assertIs(fits(SCHEMA, row), False, row)

    def test_any_value(self):
        for value in WRONG_ROWS + ((), (1,), (1, "a"), (1, "a", True, None), [1, "a", True], (1, ("a",), True), SCHEMA,
                                   10 ** 89):
            self.assertIs(fits(SCHEMA, value), False, value)

    def test_checks(self):
        # A check that is unknown does not refuse the row, one that is False does.
        self.assertEqual([fits(SCHEMA, (a, b, None)) for a, b in ((100, "a"), (99, "x"), (99, None), (99, "a"))],
                         [False, False, True, True])
        odd = spoilt(4, (("is", "a", "x"), ("less", "b", None), ("most", "c", 1)))
        self.assertIs(fits(odd, (1, "a", True)), True)
        self.assertIs(fits(spoilt(4, (("none", "b"), ("none", "c"))), (1, None, True)), False)

    def test_by_chance(self):
        told = {}
        for seed in range(1500):
            chance = Random(seed)
            schema = schema_by_chance(chance)
            row = row_by_chance(chance, schema)
            if chance.randrange(4) == 0:
                row = row[:-1] + (chance.choice(VALUES),)
            self.assertIs(fits(schema, row), plain_fits(schema, row))
            told[plain_fits(schema, row)] = True
            if plain_fits(schema, row):
                self.assertEqual(key_of(schema, row), values_at(schema, schema[2], row))
            else:
                self.refused(InvalidRow, key_of, schema, row)
        self.assertEqual(len(told), 2)

    def test_key_of(self):
        schema = ("t", (A, ("b", "text", False), C), ("b", "a"), (), ())
        self.assertEqual(key_of(schema=schema, row=(7, "x", None)), ("x", 7))
        for value in WRONG_ROWS + ((), (1, "a"), ("a", 1, None), [7, "x", None]):
            self.refused(InvalidRow, key_of, schema, value)

    def test_errors(self):
        for value in WRONG_SCHEMAS:
            self.refused(InvalidSchema, fits, value, (1, "a", True))
            self.refused(InvalidSchema, fits, value, None)
            self.refused(InvalidSchema, key_of, value, (1, "a", True))
            self.refused(InvalidSchema, key_of, value, None)


class TextTest(Case):
    def test_the_values_in_their_sequence(self):
        self.assertEqual(values_told(schema_text(SMALL)), ("t", 1, "a", "int", False, 1, "a", 0, 0))
        self.assertEqual(values_told(schema_text(schema=SCHEMA)), (
            "t", 3, "a", "int", False, "b", "text", True, "c", "truth", True, 1, "a",
            2, "ia", True, 1, "b", "ib", False, 2, "c", "b", 2, "less", "a", 100, "not", "is", "b", "x"))
        nested = spoilt(4, (("or", ("and", ("none", "a"), ("most", "b", None)), ("not", ("is", "c", True))),))
        self.assertEqual(values_told(schema_text(nested))[-12:],
                         (1, "or", "and", "none", "a", "most", "b", None, "not", "is", "c", True))

    def test_both_ways(self):
        for schema in (SCHEMA, SMALL, spoilt(4, (deep(12), deep(12)))):
            self.assertEqual(schema_told(text=schema_text(schema)), schema)
        for seed in range(600):
            schema = schema_by_chance(Random(seed))
            told = schema_told(schema_text(schema))
            self.assertEqual((told, repr(told)), (schema, repr(schema)))

    def test_words_as_values(self):
        checks = (("is", "a", "and"), ("most", "b", "not"), ("less", "c", "is"))
        for schema in (spoilt(4, checks), ("and", (("is", "int", False), ("not", "text", True)), ("is",), (),
                                           (("none", "not"), ("is", "is", "not")))):
            self.assertEqual(schema_told(schema_text(schema)), schema)

    def test_codes_that_are_none(self):
        for text, index in (("x", 0), ("t", 1), ("tt", 2), ("tt pA", 5), ("tt pA0", 5), ("tt q", 3)):
            self.assertEqual(self.refused(InvalidCode, schema_told, text).index, index, text)
        good = schema_text(SCHEMA)
        for at in range(len(good)):
            try:
                values_told(good[:at])
            except InvalidCode as error:
                self.assertEqual(self.refused(InvalidCode, schema_told, good[:at]).index, error.index)
            else:
                self.refused(InvalidSchema, schema_told, good[:at])

    def test_values_that_are_no_schema(self):
        good = list(values_told(schema_text(SCHEMA)))
        lots = [[], ["t"], good[:-1], good + [None], good + ["x"], good + good]
        for at in range(len(good)):
            lots.append(good[:at] + good[at + 1:])
            for value in (None, True, False, 0, 1, 2, 3, -1, 10 ** 29, "", "a", "b", "d", "is", "none", "not", "int"):
                lots.append(good[:at] + [value] + good[at + 1:])
        for values in lots:
            text = row_code(tuple(values))
            try:
                told = schema_told(text)
            except InvalidSchema:
                continue
            self.assertTrue(is_schema(told))
            self.assertEqual(schema_text(told), text)
        self.refused(InvalidSchema, schema_told, "")
        for schema in WRONG_SCHEMAS:
            self.refused(InvalidSchema, schema_text, schema)

    def test_each_spoilt_schema_has_no_text(self):
        """The values of tuples that are nearly schemas tell none."""
        head, tail = ["t", 1, "a", "int"], [1, "a", 0, 0]
        schema_told(row_code(tuple(head + [False] + tail)))
        for values in (head + [True] + tail, head + [None] + tail, head + [0] + tail, ["T"] + head[1:] + [False] + tail,
                       ["t", True, "a", "int", False] + tail, ["t", 0, 1, "a", 0, 0], head + [False, 0, 0, 0],
                       head + [False, 2, "a", "a", 0, 0], head + [False, 1, "a", -1, 0],
                       head + [False, 1, "a", 1, "key", True, 1, "a", 0],
                       head + [False, 1, "a", 1, "i", 1, 1, "a", 0], head + [False, 1, "a", 1, "i", True, 0, 0],
                       head + [False, 1, "a", 0, 5] + ["none", "a"] * 5, head + [False, 1, "a", 0, 1, "none", "b"],
                       head + [False, 1, "a", 0, 1] + ["not"] * 12 + ["none", "a"],
                       head + [False, 1, "a", 0, 1] + ["not"] * 6000, head + [False, 1, "a", 0, 1] + ["and"] * 6000,
                       head + [False, 1, "a", 0, 1] + ["or", "none", "a"] * 2000,
                       head + [False, 1, "a", 0, 1, "and", "none", "a"], head + [False, 1, "a", 0, 1, "xor"],
                       head + [False, 1, "a", 0, 1, None], head + [False, 1, "a", 0, 1]):
            self.refused(InvalidSchema, schema_told, row_code(tuple(values)))
        schema_told(row_code(tuple(head + [False, 1, "a", 0, 1] + ["not"] * 11 + ["none", "a"])))

    def test_texts_near_to_one(self):
        text = schema_text(SMALL[:4] + ((("is", "a", 5),),))
        for other in exchanged(text, "0otp2A a"):
            try:
                told = schema_told(other)
            except (InvalidCode, InvalidSchema):
                continue
            self.assertEqual(schema_text(told), other)

    def test_errors(self):
        self.refused_each(InvalidText, schema_told, WRONG_TEXTS)

    def test_conditions_by_chance(self):
        for seed in range(300):
            chance = Random(seed)
            checks = tuple(condition_by_chance(chance, "abc", 6) for _ in range(chance.randrange(5)))
            self.assertEqual(repr(schema_told(schema_text(spoilt(4, checks)))), repr(spoilt(4, checks)))


if __name__ == "__main__":
    unittest.main()
