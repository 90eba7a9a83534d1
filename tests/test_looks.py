from random import Random
import unittest

from heldpasts.books import Book
from heldpasts.disk import Disk
from heldpasts.errors import Conflict, InvalidPlan, InvalidQuestion, StoreError
from heldpasts.looks import best_plan, is_question, look, plain_answer, plan_cost, plans
from heldpasts.pages import fresh_image
from heldpasts.sessions import Versions
from heldpasts.store import Store
from heldpasts.stretches import bounds_of, stretch_for
from tests.asks import plain_look, question_by_chance
from tests.books import fresh_book, fresh_versions
from tests.helpers import Case
from tests.rows import deep, row_by_chance, schema_by_chance

SCHEMA = ("t", (("a", "int", False), ("b", "text", True), ("c", "truth", True), ("d", "int", False)), ("a",),
          (("ib", ("b",), True), ("ic", ("c", "b"), False), ("id", ("d", "b"), True), ("ie", ("d",), True)), ())
ROWS = ((1, "x", True, 9), (2, "y", None, 8), (3, None, False, 7), (-4, "z", True, 6), (5, "", None, 5))
WHOLE = ("t", None, None, (), None)
WRONG_QUESTIONS = (
    None, True, False, 0, "", "t", (), ("t",), [], {}, list(WHOLE), WHOLE[:4], WHOLE + (None,),
    ("u", None, None, (), None), ("T", None, None, (), None), (None, None, None, (), None), (("t",), None, None, (), 1),
    ("t", (), None, (), None), ("t", True, None, (), None), ("t", ("none", "x"), None, (), None),
    ("t", ["none", "a"], None, (), None), ("t", ("is", "a", 10 ** 30), None, (), None), ("t", deep(13), None, (), None),
    ("t", None, "a", (), None), ("t", None, ["a"], (), None), ("t", None, ("x",), (), None),
    ("t", None, ("a", None), (), None), ("t", None, True, (), None),
    ("t", None, None, None, None), ("t", None, None, [], None), ("t", None, None, ("a",), None),
    ("t", None, None, (("a",),), None), ("t", None, None, (("a", 1),), None), ("t", None, None, (("a", None),), None),
    ("t", None, None, (("x", True),), None), ("t", None, None, (["a", True],), None),
    ("t", None, None, (("a", True, True),), None), ("t", None, None, (("a", True), ("a", 0)), None),
    ("t", None, None, (), -1), ("t", None, None, (), True), ("t", None, None, (), False), ("t", None, None, (), "1"),
    ("t", None, None, (), (1,)))


def state_of(book):
    session = book.session
    return (session.changes, session.guards, session.ended, session.entries(None, None))


class LookCase(Case):
    def setUp(self):
        self.book = fresh_book(SCHEMA)
        for row in ROWS:
            self.book.add("t", row)

    def unchanged(self, kind, call, *members, **names):
        before = state_of(self.book)
        error = self.refused(kind, call, *members, **names)
        self.assertEqual(state_of(self.book), before)
        return error

    def answer(self, condition=None, columns=None, order=(), most=None):
        """The plain answer, which each plan tells, too."""
        question = ("t", condition, columns, order, most)
        told = plain_answer(self.book, question)
        self.assertEqual(told, plain_look(SCHEMA, question, ROWS))
        self.assertEqual(look(self.book, question), told)
        for plan in plans(self.book, question):
            self.assertEqual(look(self.book, question, plan), told)
        return told


class QuestionTest(LookCase):
    def test_questions(self):
        for value in (WHOLE, ("t", deep(12), ("a", "a", "d"), (("a", True), ("a", False), ("c", False)), 0),
                      ("t", ("none", "b"), (), (), 10 ** 89)):
            self.assertIs(is_question(book=self.book, value=value), True)
            plain_answer(self.book, value)

    def test_values_of_all_kinds(self):
        for value in WRONG_QUESTIONS:
            with self.subTest(value=value):
                self.assertIs(is_question(self.book, value), False)
                for call, more in ((plain_answer, ()), (plans, ()), (best_plan, ()), (look, ()), (look, ("no plan",)),
                                   (plan_cost, ("no plan",)), (plan_cost, (("all",),))):
                    self.unchanged(InvalidQuestion, call, self.book, value, *more)

    def test_a_table_of_the_book_as_it_is_now(self):
        self.assertIs(is_question(self.book, ("u", None, None, (), None)), False)
        self.book.make(("u",) + SCHEMA[1:])
        self.assertIs(is_question(self.book, ("u", None, None, (), None)), True)
        self.book.drop("t")
        self.assertIs(is_question(self.book, WHOLE), False)


class AnswerTest(LookCase):
    def test_example(self):
        schema = ("t", (("a", "int", False), ("b", "text", True)), ("a",), (("ib", ("b",), True),), ())
        book = Book(Versions(Store(Disk(fresh_image(60, 12, 800), 800))).begin())
        self.assertEqual([book.make(schema), book.add("t", (1, "x")), book.add("t", (2, None)),
                          book.entries_of("t", "ib")], [None, None, None, [(("x",), (1,))]])
        question = ("t", ("not", ("none", "b")), ("a",), (), None)
        self.assertEqual([plans(book, question), best_plan(book, question), look(book, question)],
                         [[("all",), ("key", None, None), ("index", "ib", "1", None)], ("index", "ib", "1", None),
                          [(1,)]])

    def test_condition(self):
        self.assertEqual(self.answer(), [ROWS[3]] + list(ROWS[:3]) + [ROWS[4]])
        self.assertEqual(self.answer(("less", "b", "y")), [ROWS[0], ROWS[4]])
        # What is unknown does not meet, nor does what is turned about.
        self.assertEqual(self.answer(("not", ("less", "b", "y"))), [ROWS[3], ROWS[1]])
        self.assertEqual(self.answer(("is", "c", 1)), [])

    def test_columns(self):
        self.assertEqual(self.answer(None, ()), [()] * 5)
        self.assertEqual(self.answer(("is", "a", 1), ("d", "a", "d")), [(9, 1, 9)])
        self.assertEqual(self.answer(None, ("a",)), [(-4,), (1,), (2,), (3,), (5,)])

    def test_order(self):
        self.assertEqual(self.answer(None, ("b",), (("b", False),)), [(None,), ("",), ("x",), ("y",), ("z",)])
        self.assertEqual(self.answer(None, ("b",), (("b", True),)), [("z",), ("y",), ("x",), ("",), (None,)])
        # None, False, True; those alike by their key, which is never turned about.
        self.assertEqual(self.answer(None, ("c", "a"), (("c", False),)),
                         [(None, 2), (None, 5), (False, 3), (True, -4), (True, 1)])
        self.assertEqual(self.answer(None, ("c", "a"), (("c", True),)),
                         [(True, -4), (True, 1), (False, 3), (None, 2), (None, 5)])
        self.assertEqual(self.answer(None, ("c", "a"), (("c", True), ("a", True), ("d", False))),
                         [(True, 1), (True, -4), (False, 3), (None, 5), (None, 2)])
        # A column that comes once more changes nothing.
        self.assertEqual(self.answer(None, ("a",), (("a", True), ("a", False))), [(5,), (3,), (2,), (1,), (-4,)])

    def test_most(self):
        for most in (0, 1, 3, 5, 6, 10 ** 89):
            self.assertEqual(self.answer(None, ("a",), (("d", False),), most), [(5,), (-4,), (3,), (2,), (1,)][:most])

    def test_lists_are_new(self):
        for call in (plain_answer, look, plans):
            call(self.book, WHOLE).clear()
            self.assertTrue(call(self.book, WHOLE))

    def test_arguments_by_name(self):
        self.assertEqual(plain_answer(book=self.book, question=WHOLE), look(book=self.book, question=WHOLE, plan=None))
        self.assertEqual(plan_cost(book=self.book, question=WHOLE, plan=("all",)), 5)
        self.assertEqual(best_plan(book=self.book, question=WHOLE), plans(book=self.book, question=WHOLE)[0])


class PlanTest(LookCase):
    def names(self, condition):
        return [plan[1] for plan in plans(self.book, ("t", condition, None, (), None)) if plan[0] == "index"]

    def test_plans(self):
        condition = ("and", ("is", "c", True), ("not", ("less", "b", "x")))
        found = plans(self.book, ("t", condition, (), (), 0))
        self.assertEqual(found[:3], [("all",), ("key", None, None), ("index", "ib", "tx ", "u")])
        self.assertEqual(found[3:], [("index", "ic", "2tx ", "2u")])
        self.assertEqual(plans(self.book, WHOLE), [("all",), ("key", None, None), ("index", "ic", None, None)])

    def test_indexes_that_are_alone(self):
        self.assertEqual(self.names(("less", "b", "x")), ["ib", "ic"])
        self.assertEqual(self.names(("none", "b")), ["ic"])
        # ("", "") tells that no row meets at all.
        self.assertEqual(self.names(("is", "b", None)), ["ib", "ic"])
        # Each of the columns counts, whether it may be None or not.
        self.assertEqual(self.names(("is", "d", 1)), ["ic", "ie"])
        self.assertEqual(self.names(("and", ("is", "d", 1), ("not", ("none", "b")))), ["ib", "ic", "id", "ie"])
        self.assertEqual(self.names(("not", ("none", "d"))), ["ic", "ie"])
        self.assertEqual(self.names(("or", ("is", "d", 1), ("none", "d"))), ["ic"])
        self.assertEqual(self.names(("or", ("is", "b", "x"), ("is", "b", 1))), ["ib", "ic"])

    def test_costs(self):
        question = ("t", ("and", ("is", "c", True), ("not", ("less", "b", "y"))), None, (), None)
        costs = [plan_cost(self.book, question, plan) for plan in plans(self.book, question)]
        self.assertEqual(costs, [5, 5, 2, 1])
        self.assertEqual(best_plan(self.book, question), ("index", "ic", "2ty ", "2u"))
        # The first one of the least.
        self.assertEqual(best_plan(self.book, WHOLE), ("all",))
        question = ("t", ("and", ("is", "a", 1), ("is", "b", "x")), None, (), None)
        self.assertEqual([plan_cost(self.book, question, plan) for plan in plans(self.book, question)], [5, 1, 1, 5])
        self.assertEqual(best_plan(self.book, question), ("key", "pA1", "pA2"))
        question = ("t", ("is", "b", None), None, (), None)
        self.assertEqual(best_plan(self.book, question), ("index", "ib", "", ""))

    def test_what_is_none_of_the_plans(self):
        question = ("t", ("is", "b", "x"), None, (), None)
        found = plans(self.book, question)
        self.assertEqual(found, [("all",), ("key", None, None), ("index", "ib", "tx ", "tx!"),
                                 ("index", "ic", None, None)])
        wrong = (True, False, 0, "", "all", [], ["all"], {}, (), ("all", None), ("key",), ("key", None, "x"),
                 ("key", None), ("index", "ib", None, None), ("index", "ie", None, None), ("index", "ix", None, None),
                 ("index", "ib", "tx ", "tx "), list(found[2]), (found[0],), found)
        for plan in wrong:
            self.unchanged(InvalidPlan, look, self.book, question, plan)
            self.unchanged(InvalidPlan, plan_cost, self.book, question, plan)
        self.unchanged(InvalidPlan, plan_cost, self.book, question, None)
        self.assertEqual(look(self.book, question, None), [ROWS[0]])


class FactTest(Case):
    """Fact J: each plan goes through each row that meets, through none twice; so look is the plain answer."""

    def check(self, chance, book):
        many = 0
        for name in book.tables():
            schema, rows = book.schema(name), book.rows_of(name)
            for _ in range(4):
                question = question_by_chance(chance, schema)
                told = plain_look(schema, question, rows)
                self.assertEqual(plain_answer(book, question), told, question)
                self.assertEqual(look(book, question), told, question)
                found = plans(book, question)
                self.check_plans(schema, question, found)
                costs = [plan_cost(book, question, plan) for plan in found]
                self.assertEqual(best_plan(book, question), found[costs.index(min(costs))])
                for plan, cost in zip(found, costs):
                    keys = book.keys_through(name, plan)
                    self.assertEqual((len(keys), len(set(map(repr, keys)))), (cost, cost))
                    self.assertEqual(look(book, question, plan), told, (question, plan))
                many += min(costs) < costs[0]
        return many

    def check_plans(self, schema, question, found):
        condition = question[1]
        expected = [("all",), ("key",) + stretch_for(schema, schema[2], condition)]
        for name, columns, alone in schema[3]:
            bounds = [bounds_of(schema, column, condition) for column in columns]
            if not alone or all(low is not None and low >= "1" or (low, high) == ("", "") for low, high in bounds):
                expected.append(("index", name) + stretch_for(schema, columns, condition))
        self.assertEqual(found, expected)

    def test_by_chance(self):
        better = 0
        for seed in range(45):
            chance = Random(seed)
            versions = fresh_versions(120, 40)
            for _ in range(4):
                book = Book(versions.begin(chance.randrange(3) == 0))
                for name in ("t", "u"):
                    try:
                        book.make(schema_by_chance(chance, name))
                    except StoreError:
                        pass
                    for _ in range(chance.randrange(12)):
                        try:
                            book.add(name, row_by_chance(chance, book.schema(name)))
                        except StoreError:
                            pass
                # Own changes are seen, too.
                better += self.check(chance, book)
                try:
                    book.session.commit()
                except Conflict:
                    book.session.drop()
            for number in range(versions.number + 1):
                self.check(chance, Book(versions.begin(False, number)))
        self.assertGreater(better, 60)


if __name__ == "__main__":
    unittest.main()
