from itertools import product
from random import Random
import unittest

from heldpasts.errors import InvalidCondition, InvalidSchema
from heldpasts.keys import row_code, value_code
from heldpasts.stretches import bounds_of, stretch_for
from tests.helpers import Case
from tests.rows import VALUES, WRONG_VALUES, condition_by_chance, deep, plain_truth

SCHEMA = ("t", (("a", "int", False), ("b", "int", True), ("c", "text", True), ("d", "truth", True)), ("a",), (), ())
NAMES = ("a", "b", "c", "d")
NOTHING = ("", "")
ALL = (None, None)
WRONG_SCHEMAS = (None, True, 0, "", "t", (), [], {}, SCHEMA[:4], list(SCHEMA), ("T",) + SCHEMA[1:])
WRONG_CONDITIONS = (True, False, 0, "", "is", (), ("is",), ["none", "a"], ("none", "x"), ("none",), ("none", "a", 1),
                    ("is", "a"), ("is", "x", 1), ("is", "a", 1, 2), ("not",), ("not", None), ("and", ("none", "a")),
                    ("and", ("none", "a"), None), ("nor", ("none", "a"), ("none", "a")), deep(13))


def behind(code):
    return code[:-1] + chr(ord(code[-1]) + 1)


def plain_bounds(column, condition, wanted):
    """The bounds by the words of [25], once more: kinds by the first sign of the code."""
    if condition is None or condition[0] in ("is", "less", "most", "none") and condition[1] != column:
        return ALL
    word = condition[0]
    if word == "none":
        return ("0", "1") if wanted else ("1", None)
    if word == "not":
        return plain_bounds(column, condition[1], not wanted)
    if word in ("and", "or"):
        sides = [plain_bounds(column, part, wanted) for part in condition[1:]]
        if (word, wanted) in (("or", True), ("and", False)):
            sides = [side for side in sides if side != NOTHING]
            if not sides:
                return NOTHING
            low = None if any(side[0] is None for side in sides) else min(side[0] for side in sides)
            high = None if any(side[1] is None for side in sides) else max(side[1] for side in sides)
        else:
            low = max((side[0] for side in sides if side[0] is not None), default=None)
            high = min((side[1] for side in sides if side[1] is not None), default=None)
        return NOTHING if low is not None and high is not None and not low < high else (low, high)
    if condition[2] is None:
        return NOTHING
    code = value_code(condition[2])
    kind = {"1": ("1", "3"), "2": ("1", "3"), "t": ("t", "u")}.get(code[0], ("n", "q"))
    told = {("is", True): (code, behind(code)), ("is", False): kind,
            ("less", True): (kind[0], code), ("less", False): (code, kind[1]),
            ("most", True): (kind[0], behind(code)), ("most", False): (behind(code), kind[1])}[word, wanted]
    return told if told[0] < told[1] else NOTHING


def inside(code, stretch):
    return (stretch[0] is None or stretch[0] <= code) and (stretch[1] is None or code < stretch[1])


class BoundsTest(Case):
    def each(self, column, condition, of_true, of_false):
        self.assertEqual(bounds_of(SCHEMA, column, condition), of_true)
        self.assertEqual(bounds_of(SCHEMA, column, condition, True), of_true)
        self.assertEqual(bounds_of(schema=SCHEMA, column=column, condition=condition, wanted=False), of_false)
        self.assertEqual(bounds_of(SCHEMA, column, ("not", condition)), of_false)
        self.assertEqual(bounds_of(SCHEMA, column, ("not", condition), False), of_true)

    def test_the_four_words(self):
        self.each("b", ("none", "b"), ("0", "1"), ("1", None))
        for word in ("is", "less", "most"):
            self.each("b", (word, "b", None), NOTHING, NOTHING)
            for value in (None, True, 7, "x"):
                self.each("b", (word, "a", value), ALL, ALL)
        self.each("b", ("none", "c"), ALL, ALL)
        self.each("b", ("is", "b", 7), ("pA7", "pA8"), ("n", "q"))
        self.each("b", ("less", "b", 7), ("n", "pA7"), ("pA7", "q"))
        self.each("b", ("most", "b", 7), ("n", "pA8"), ("pA8", "q"))
        self.each("b", ("is", "b", 0), ("o", "p"), ("n", "q"))
        self.each("b", ("less", "b", 0), ("n", "o"), ("o", "q"))
        self.each("b", ("most", "b", -19), ("n", "n^81"), ("n^81", "q"))
        self.each("b", ("is", "b", 29), ("pB29", "pB2:"), ("n", "q"))
        # The kind is the told value's, not the column's.
        self.each("b", ("is", "b", "x y"), ("tx!ay ", "tx!ay!"), ("t", "u"))
        self.each("b", ("less", "b", ""), ("t", "t "), ("t ", "u"))
        self.each("c", ("most", "c", "x"), ("t", "tx!"), ("tx!", "u"))

    def test_truths(self):
        self.each("d", ("is", "d", False), ("1", "2"), ("1", "3"))
        self.each("d", ("is", "d", True), ("2", "3"), ("1", "3"))
        self.each("d", ("less", "d", False), NOTHING, ("1", "3"))
        self.each("d", ("less", "d", True), ("1", "2"), ("2", "3"))
        self.each("d", ("most", "d", False), ("1", "2"), ("2", "3"))
        self.each("d", ("most", "d", True), ("1", "3"), NOTHING)

    def test_none_in_the_place_of_a_condition(self):
        for wanted in (True, False):
            self.assertEqual(bounds_of(SCHEMA, "a", None, wanted), ALL)

    def test_two_conditions(self):
        three, seven = ("less", "b", 3), ("less", "b", 7)
        self.each("b", ("and", three, seven), ("n", "pA3"), ("pA3", "q"))
        self.each("b", ("or", three, seven), ("n", "pA7"), ("pA7", "q"))
        self.each("b", ("and", ("not", three), seven), ("pA3", "pA7"), ("n", "q"))
        self.each("b", ("and", three, ("not", seven)), NOTHING, ("n", "q"))
        self.each("b", ("or", three, ("not", seven)), ("n", "q"), ("pA3", "pA7"))
        # ("", "") beside others, on both sides.
        for one, other in ((three, ("is", "b", None)), (("is", "b", None), three)):
            self.each("b", ("and", one, other), NOTHING, ("pA3", "q"))
            self.each("b", ("or", one, other), ("n", "pA3"), NOTHING)
        for word in ("and", "or"):
            self.each("b", (word, ("is", "b", None), ("less", "b", None)), NOTHING, NOTHING)
        # No bound, on both sides.
        for one, other in ((three, ("none", "a")), (("none", "a"), three)):
            self.each("b", ("and", one, other), ("n", "pA3"), ALL)
            self.each("b", ("or", one, other), ALL, ("pA3", "q"))
        self.each("b", ("or", ("not", ("none", "b")), three), ("1", None), NOTHING)
        self.each("b", ("and", ("not", ("none", "b")), three), ("n", "pA3"), ("0", "q"))
        # A lower one that is not less than the higher one becomes ("", "") at each step.
        crossed = ("and", ("is", "b", 9), ("is", "b", 1))
        self.each("b", ("or", crossed, ("is", "b", 5)), ("pA5", "pA6"), ("n", "q"))
        self.each("b", ("and", ("less", "b", 5), ("not", ("less", "b", 5))), NOTHING, ("n", "q"))

    def test_against_the_words(self):
        chance = Random(1)
        for _ in range(4000):
            condition = condition_by_chance(chance, NAMES, 6)
            for column, wanted in product(NAMES, (True, False)):
                self.assertEqual(bounds_of(SCHEMA, column, condition, wanted),
                                 plain_bounds(column, condition, wanted), condition)

    def test_each_row_with_the_truth_lies_between(self):
        chance = Random(2)
        for _ in range(1500):
            condition = condition_by_chance(chance, ("a", "b"), 4)
            for row in product(VALUES[:9], repeat=2):
                truth = plain_truth(condition, dict(zip("ab", row)))
                for column, value in zip("ab", row):
                    if truth != 1:
                        bounds = bounds_of(SCHEMA, column, condition, truth == 2)
                        self.assertTrue(inside(value_code(value), bounds), (condition, row))

    def test_wrong_arguments(self):
        for value in WRONG_SCHEMAS:
            self.refused(InvalidSchema, bounds_of, value, "a", None)
            self.refused(InvalidSchema, bounds_of, value, "x", ())
            self.refused(InvalidSchema, stretch_for, value, ("a",), None)
            self.refused(InvalidSchema, stretch_for, value, (), ())
        for column in (None, True, 0, "", "x", "A", ("a",), ["a"], {}):
            self.refused(InvalidCondition, bounds_of, SCHEMA, column, None)
        for condition in WRONG_CONDITIONS:
            self.refused(InvalidCondition, bounds_of, SCHEMA, "a", condition)
            self.refused(InvalidCondition, stretch_for, SCHEMA, ("a",), condition)
        for value in WRONG_VALUES:
            self.refused(InvalidCondition, bounds_of, SCHEMA, "a", ("is", "b", value))
        self.assertEqual(bounds_of(SCHEMA, "d", deep(12)), ALL)


class StretchTest(Case):
    def test_example(self):
        schema = ("t", (("a", "int", False), ("b", "int", True)), ("a",), (), ())
        condition = ("and", ("is", "a", 1), ("not", ("less", "b", 3)))
        self.assertEqual([stretch_for(schema, ("a", "b"), condition), stretch_for(schema, ("b", "a"), condition)],
                         [("pA1pA3", "pA1q"), ("pA3", "q")])

    def stretch(self, columns, *conditions):
        condition = conditions[0]
        for other in conditions[1:]:
            condition = ("and", condition, other)
        return stretch_for(schema=SCHEMA, columns=columns, condition=condition)

    def test_one_column(self):
        self.assertEqual(self.stretch(("a",), None), ALL)
        self.assertEqual(self.stretch(("a", "b"), None), ALL)
        self.assertEqual(self.stretch(("a",), ("none", "b")), ALL)
        self.assertEqual(self.stretch(("a",), ("less", "a", 3)), ("n", "pA3"))
        self.assertEqual(self.stretch(("a",), ("is", "a", 3)), ("pA3", "pA4"))
        self.assertEqual(self.stretch(("a",), ("is", "a", None)), NOTHING)
        self.assertEqual(self.stretch(("b",), ("not", ("none", "b"))), ("1", None))

    def test_several_columns(self):
        is_one, is_text = ("is", "a", 1), ("is", "c", "x")
        self.assertEqual(self.stretch(("a", "c"), is_one), ("pA1", "pA2"))
        self.assertEqual(self.stretch(("a", "c"), is_one, ("not", ("none", "c"))), ("pA11", "pA2"))
        self.assertEqual(self.stretch(("a", "c"), is_one, is_text), ("pA1tx ", "pA1tx!"))
        self.assertEqual(self.stretch(("c", "a"), is_one, is_text), ("tx pA1", "tx pA2"))
        self.assertEqual(self.stretch(("c", "a"), is_text), ("tx ", "tx!"))
        self.assertEqual(self.stretch(("c", "a", "b"), is_text, ("is", "b", 2)), ("tx ", "tx!"))
        self.assertEqual(self.stretch(("c", "a", "b"), is_text, is_one, ("most", "b", 2)), ("tx pA1n", "tx pA1pA3"))
        # ("", "") ends all, if it is looked at.
        self.assertEqual(self.stretch(("a", "b", "c"), is_one, ("is", "b", None), is_text), NOTHING)
        self.assertEqual(self.stretch(("a", "b", "c"), ("less", "a", 1), ("is", "b", None)), ("n", "pA1"))

    def test_one_value_however_it_came_about(self):
        behind_b = ("is", "b", 2)
        for conditions, code in (((("none", "d"),), "0"),
                                 ((("less", "d", True),), "1"), ((("most", "d", False),), "1"),
                                 ((("not", ("less", "d", True)),), "2"), ((("not", ("most", "d", False)),), "2"),
                                 ((("not", ("less", "d", 5)), ("less", "d", 6)), "pA5"),
                                 ((("not", ("less", "d", 5)), ("most", "d", 5)), "pA5"),
                                 ((("not", ("less", "d", 0)), ("most", "d", 0)), "o"),
                                 ((("or", ("is", "d", "x"), ("is", "d", None)),), "tx ")):
            self.assertEqual(self.stretch(("d", "b"), *conditions, behind_b), (code + "pA2", code + "pA3"))
            self.assertEqual(self.stretch(("d",), *conditions), (code, behind(code)))
        for conditions, stretch in (((("not", ("less", "d", 19)), ("less", "d", 20)), ("pB19", "pB20")),
                                    ((("not", ("less", "d", 0)), ("less", "d", 1)), ("o", "pA1")),
                                    ((("not", ("most", "d", 9)), ("less", "d", 11)), ("pA:", "pB11")),
                                    ((("less", "d", ""),), ("t", "t "))):
            self.assertEqual(self.stretch(("d", "b"), *conditions, behind_b), stretch)

    def test_against_the_words(self):
        one_value = {(code, behind(code)): True for code in map(value_code, VALUES + (6, 2, -2, 9))}
        chance = Random(3)
        for _ in range(3000):
            condition = condition_by_chance(chance, ("a", "b", "c"), 5)
            columns = tuple(chance.sample(NAMES, chance.randrange(1, 4)))
            code, told = "", None
            for column in columns:
                low, high = plain_bounds(column, condition, True)
                if (low, high) == NOTHING:
                    told = NOTHING
                elif (low, high) not in one_value:
                    told = (low, high)
                    if code:
                        told = (code + (low or ""), behind(code) if high is None else code + high)
                if told is not None:
                    break
                code += low
            self.assertEqual(stretch_for(SCHEMA, columns, condition), told or (code, behind(code)), condition)

    def test_each_row_that_meets_lies_in_it(self):
        chance = Random(4)
        for _ in range(600):
            condition = condition_by_chance(chance, ("a", "b"), 4)
            for columns in (("a",), ("a", "b"), ("b", "a")):
                stretch = stretch_for(SCHEMA, columns, condition)
                for row in product(VALUES[:9], repeat=2):
                    values = dict(zip("ab", row))
                    if plain_truth(condition, values) == 2:
                        self.assertTrue(inside(row_code(tuple(values[column] for column in columns)), stretch))

    def test_columns(self):
        for columns in ((), ("a", "a"), ("x",), ("a", "x"), ("A",), None, True, 0, "", "a", ["a"], {}, (0,), (("a",),)):
            self.refused(InvalidCondition, stretch_for, SCHEMA, columns, None)
            self.refused(InvalidCondition, stretch_for, SCHEMA, columns, ("none", "a"))


if __name__ == "__main__":
    unittest.main()
