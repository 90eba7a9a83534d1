from itertools import product
from random import Random
import unittest

from heldpasts.conditions import is_condition, is_name, meets, truth_of
from heldpasts.errors import InvalidCondition, InvalidRow
from tests.helpers import Case
from tests.rows import COLUMNS, VALUES, WRONG_VALUES, condition_by_chance, deep, plain_truth
from tests.test_holds import WRONG_NAMES

WRONG_COLUMNS = (None, True, 0, "a", ["a"], {}, ("a", "a"), ("a", "b", "a"), ("A",), ("",), (1,), (None,), (("a",),),
                 ("abcdefghi",), ("a b",))
WRONG_ROWS = (None, True, 1, "", "a", [], [1, 2], {}, ((),), ([],), (1, ("a",)), (1, {})) + tuple(
    (1, value) for value in WRONG_VALUES)
TRUTHS = {0: False, 1: None, 2: True}


class NameTest(Case):
    def test_is_name(self):
        for value in ("a", "z", "key", "abcdefgh", "zzzzzzzz"):
            self.assertIs(is_name(value=value), True)
        for value in WRONG_NAMES + (10 ** 89, (), [], "aB", "a_b", "\u017f", "a0"):
            self.assertIs(is_name(value), False, value)


class IsConditionTest(Case):
    def test_each_word(self):
        for value in VALUES:
            for word in ("is", "less", "most"):
                self.assertIs(is_condition(columns=("a",), value=(word, "a", value)), True)
        self.assertIs(is_condition(("b", "a"), ("none", "a")), True)
        self.assertIs(is_condition(("a",), ("not", ("none", "a"))), True)
        for word in ("and", "or"):
            self.assertIs(is_condition(("a", "b"), (word, ("none", "a"), ("is", "b", 1))), True)

    def test_other_values(self):
        inner = ("none", "a")
        values = [None, True, False, 0, 10 ** 89, "", "is", "none", (), [], {}, ("is",), ("is", "a"), ("is", "a", 1, 2),
                  ("is", "c", 1), ("is", 1, "a"), ("none",), ("none", "c"), ("none", "a", 1), ("none", None),
                  ("none", []), ("none", ("a",)), ["none", "a"], ("not",), ("not", inner, inner), ("not", None),
                  ("not", "none"), ("not", ["none", "a"]), ("and", inner), ("and", inner, inner, inner),
                  ("or", inner, None), ("or", None, inner), ("and", inner, ("none", "c")), ("xor", inner, inner),
                  ("Is", "a", 1), (None, "a"), (True, "a", 1), (1, 2, 3), (["is"], "a", 1), (("is",), "a", 1),
                  ({}, "a"), ("and", [inner, inner]), ("is", ["a"], 1), ("most", {}, 1), ("", "a")]
        values += [(word, "a", value) for word in ("is", "less", "most") for value in WRONG_VALUES]
        nested = ()
        for _ in range(40):
            nested = (nested,)
        for value in values + [nested]:
            for other in (value, ("not", value), ("and", inner, value), ("or", value, inner)):
                self.assertIs(is_condition(("a", "b"), other), False, other)
        self.assertIs(is_condition((), ("none", "a")), False)
        self.assertIs(is_condition((), None), False)

    def test_depth(self):
        for many in range(1, 13):
            self.assertIs(is_condition(("a",), deep(many)), True)
        for many in (13, 14, 30):
            self.assertIs(is_condition(("a",), deep(many)), False)
        whole = ("is", "a", 1)
        for word in ("and", "or") * 5:
            whole = (word, whole, whole)
        self.assertIs(is_condition(("a",), ("not", whole)), True)
        self.assertIs(is_condition(("a",), ("not", ("not", whole))), False)
        self.assertIs(is_condition(("a",), ("and", ("none", "a"), deep(11))), True)
        self.assertIs(is_condition(("a",), ("or", deep(12), ("none", "a"))), False)

    def test_columns(self):
        for columns in WRONG_COLUMNS:
            self.refused(InvalidCondition, is_condition, columns, ("none", "a"))
            self.refused(InvalidCondition, is_condition, columns, None)
        names = tuple(one + other for one, other in product("abcdefgh", repeat=2))
        self.assertIs(is_condition(names, ("none", "hh")), True)


class TruthTest(Case):
    def test_example(self):
        one, other = ("not", ("is", "a", 1)), ("less", "b", "x")
        self.assertEqual([truth_of(("a", "b"), ("and", one, other), (0, None)),
                          truth_of(("a", "b"), ("or", one, other), (0, None))], [None, True])

    def test_values_of_each_kind(self):
        order = {"is": lambda one, other: one == other, "less": lambda one, other: one < other,
                 "most": lambda one, other: one <= other}
        for value, told in product(VALUES, VALUES):
            for word, right in order.items():
                known = value is not None and told is not None and type(value) is type(told)
                self.assertIs(truth_of(("a",), (word, "a", told), (value,)), right(value, told) if known else None)
            self.assertIs(truth_of(columns=("a",), condition=("none", "a"), row=(value,)), value is None)

    def test_and_or_not(self):
        truths = {True: ("is", "a", 1), False: ("is", "a", 2), None: ("is", "a", None)}
        for one in truths:
            told = truth_of(("a",), ("not", truths[one]), (1,))
            self.assertIs(told, None if one is None else not one)
            for other in truths:
                both = truth_of(("a",), ("and", truths[one], truths[other]), (1,))
                self.assertIs(both, False if False in (one, other) else None if None in (one, other) else True)
                either = truth_of(("a",), ("or", truths[one], truths[other]), (1,))
                self.assertIs(either, True if True in (one, other) else None if None in (one, other) else False)
                self.assertIs(meets(("a",), ("or", truths[one], truths[other]), (1,)), either is True)

    def test_no_condition(self):
        for columns, row in (((), ()), (("a",), (None,)), (("a", "b"), (1, "x"))):
            self.assertIs(truth_of(columns, None, row), True)
            self.assertIs(meets(columns=columns, condition=None, row=row), True)

    def test_by_chance(self):
        met = {}
        for seed in range(3000):
            chance = Random(seed)
            columns = tuple(chance.sample(COLUMNS, chance.randrange(1, 5)))
            condition = condition_by_chance(chance, columns)
            row = tuple(chance.choice(VALUES) for _ in columns)
            truth = TRUTHS[plain_truth(condition, dict(zip(columns, row)))]
            self.assertIs(truth_of(columns, condition, row), truth)
            self.assertIs(meets(columns, condition, row), truth is True)
            met[truth] = True
        self.assertEqual(len(met), 3)

    def test_deep_ones(self):
        self.assertIs(truth_of(("a",), deep(12), (None,)), plain_truth(deep(12), {"a": None}) == 2)

    def test_errors(self):
        for call in (truth_of, meets):
            for columns in WRONG_COLUMNS:
                self.refused(InvalidCondition, call, columns, None, ())
                self.refused(InvalidCondition, call, columns, ("none", "a"), None)
            for condition in (False, 0, "", (), ["none", "a"], ("none", "c"), deep(13), ("is", "a"), ("is", "a", ())):
                self.refused(InvalidCondition, call, ("a", "b"), condition, (1, 2))
                self.refused(InvalidCondition, call, ("a", "b"), condition, None)
            for condition in (None, ("none", "a")):
                for row in WRONG_ROWS + ((), (1,), (1, 2, 3)):
                    self.refused(InvalidRow, call, ("a", "b"), condition, row)
                call(("a", "b"), condition, (1, 2))
            self.refused(InvalidRow, call, (), None, (1,))


if __name__ == "__main__":
    unittest.main()
