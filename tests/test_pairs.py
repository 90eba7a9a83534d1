from random import Random
import unittest

from heldpasts.errors import InvalidPlaces, InvalidQuestion, InvalidRoad
from heldpasts.keys import row_code
from heldpasts.looks import look
from heldpasts.pairs import paired, totals
from tests.asks import question_by_chance
from tests.books import fresh_book
from tests.helpers import Case
from tests.rows import row_by_chance
from tests.test_looks import WRONG_QUESTIONS

SCHEMA = ("t", (("a", "int", False), ("b", "text", True), ("c", "truth", True), ("d", "int", True)), ("a",),
          (("ib", ("b",), False),), ())
OTHER = ("u", (("e", "text", False), ("f", "int", True), ("g", "truth", True)), ("e",), (), ())
ROWS = ((1, "x", True, 2), (2, "y", None, 2), (3, None, False, None), (4, "x", True, 1), (0, "0", False, 0))
OTHERS = (("x", 1, True), ("y", None, True), ("z", 0, False), ("0", 2, None))
ROADS = ("loops", "order", "marks")
ONE, TWO = ("t", None, None, (), None), ("u", None, None, (), None)
WRONG = tuple(value for value in WRONG_QUESTIONS if value != TWO)
WRONG_PLACES = (None, True, False, 0, "", "ab", [], {}, (0,), (None,), ((0,),), ((0, 0, 0),), ([0, 0],), ((0, 3),),
                ((4, 0),), ((-1, 0),), ((0, -1),), ((True, 0),), ((0, False),), (("0", 0),), ((0, None),),
                ((0, 0), (0, 3)), [(0, 0)])
WRONG_INDEXES = (None, True, False, 0, "", "ab", [], {}, (None,), (4,), (-1,), (True,), ("0",), ((0,),), (0, 4), [0])


def same(one, other):
    return type(one) is type(other) and one == other and one is not None


def plain_pairs(rows, others, on):
    return [(row, other) for row in rows for other in others if all(same(row[at], other[place]) for at, place in on)]


def plain_totals(rows, groups, sums):
    """The totals by the words: the groups in the sequence of their codes, each row looked at for each of them."""
    told = {row_code(tuple(row[at] for at in groups)): tuple(row[at] for at in groups) for row in rows}
    found = []
    for code in sorted(told):
        own = [row for row in rows if row_code(tuple(row[at] for at in groups)) == code]
        sums_told = []
        for at in sums:
            values = [row[at] for row in own if row[at] is not None]
            sums_told.append(sum(values) if values else None)
        found.append((told[code], len(own), tuple(sums_told)))
    return found


class PairCase(Case):
    def setUp(self):
        self.book = fresh_book(SCHEMA, OTHER)
        for row in ROWS:
            self.book.add("t", row)
        for row in OTHERS:
            self.book.add("u", row)

    def unchanged(self, kind, call, *members):
        before = self.book.session.changes
        self.refused(kind, call, *members)
        self.assertEqual(self.book.session.changes, before)


class PairedTest(PairCase):
    def pairs(self, question, other, on):
        told = plain_pairs(look(self.book, question), look(self.book, other), on)
        for road in ROADS:
            self.assertEqual(paired(self.book, question, other, on, road), told, road)
        return told

    def test_each_road(self):
        self.assertEqual(self.pairs(ONE, TWO, ((1, 0),)), [((0, "0", False, 0), ("0", 2, None)),
                                                           ((1, "x", True, 2), ("x", 1, True)),
                                                           ((2, "y", None, 2), ("y", None, True)),
                                                           ((4, "x", True, 1), ("x", 1, True))])
        # None is like nothing, not even None.
        by_truth = self.pairs(ONE, TWO, ((2, 2),))
        self.assertEqual([(row[0], other[0]) for row, other in by_truth],
                         [(0, "z"), (1, "x"), (1, "y"), (3, "z"), (4, "x"), (4, "y")])
        # A truth is no integer, and a text neither.
        for on in (((2, 1),), ((0, 2),), ((3, 0),), ((1, 1),)):
            self.assertEqual(self.pairs(ONE, TWO, on), [])
        self.assertEqual([(row[0], other[0]) for row, other in self.pairs(ONE, TWO, ((3, 1), (2, 2)))],
                         [(0, "z"), (4, "x")])
        self.assertEqual(self.pairs(ONE, TWO, ((3, 1), (3, 1), (3, 1))), self.pairs(ONE, TWO, ((3, 1),)))

    def test_all_pairs(self):
        told = self.pairs(ONE, TWO, ())
        self.assertEqual(len(told), 20)
        self.assertEqual(told[:2], [((0, "0", False, 0), ("0", 2, None)), ((0, "0", False, 0), ("x", 1, True))])
        self.assertEqual(self.pairs(("t", ("is", "a", 9), None, (), None), TWO, ()), [])
        self.assertEqual(self.pairs(("t", None, (), (), 2), ("u", None, (), (), 1), ()), [((), ()), ((), ())])

    def test_the_places_are_those_of_the_answers(self):
        question = ("t", None, ("d", "d", "a"), (("d", True),), 4)
        other = ("u", ("not", ("none", "f")), ("f",), (("f", False),), None)
        self.assertEqual(self.pairs(question, other, ((1, 0),)),
                         [((2, 2, 1), (2,)), ((2, 2, 2), (2,)), ((1, 1, 4), (1,)), ((0, 0, 0), (0,))])
        self.assertEqual(self.pairs(question, other, ((2, 0),)),
                         [((2, 2, 1), (1,)), ((2, 2, 2), (2,)), ((0, 0, 0), (0,))])
        # A table with itself.
        self.assertEqual([(row[0], other[0]) for row, other in self.pairs(ONE, ONE, ((3, 3),))],
                         [(0, 0), (1, 1), (1, 2), (2, 1), (2, 2), (4, 4)])

    def test_by_chance(self):
        chance = Random(7)
        for _ in range(150):
            book = fresh_book(SCHEMA, OTHER)
            self.book = book
            for schema in (SCHEMA, OTHER):
                rows = {row_code(row[:1]): row for row in [row_by_chance(chance, schema) for _ in range(9)]}
                for row in rows.values():
                    book.add(schema[0], row)
            one = question_by_chance(chance, SCHEMA)
            other = question_by_chance(chance, chance.choice((SCHEMA, OTHER)))
            width = 4 if one[2] is None else len(one[2])
            other_width = len((SCHEMA if other[0] == "t" else OTHER)[1]) if other[2] is None else len(other[2])
            on = tuple((chance.randrange(width), chance.randrange(other_width)) for _ in range(chance.randrange(3))
                       if width and other_width)
            self.pairs(one, other, on)
            groups = tuple(chance.randrange(width) for _ in range(chance.randrange(4)) if width)
            names = "abcd" if one[2] is None else one[2]
            numbers = [at for at, name in enumerate(names) if name in "ad"]
            sums = tuple(chance.choice(numbers) for _ in range(chance.randrange(3)) if numbers)
            self.assertEqual(totals(book, one, groups, sums), plain_totals(look(book, one), groups, sums))

    def test_by_name(self):
        self.assertEqual(paired(book=self.book, question=ONE, other_question=TWO, on=((0, 1),), road="order"),
                         plain_pairs(look(self.book, ONE), look(self.book, TWO), ((0, 1),)))

    def test_wrong_arguments(self):
        for value in WRONG:
            self.unchanged(InvalidQuestion, paired, self.book, value, TWO, (), "loops")
            self.unchanged(InvalidQuestion, paired, self.book, ONE, value, (), "loops")
            self.unchanged(InvalidQuestion, paired, self.book, ONE, value, None, None)
        for on in WRONG_PLACES:
            self.unchanged(InvalidPlaces, paired, self.book, ONE, TWO, on, "loops")
            self.unchanged(InvalidPlaces, paired, self.book, ONE, TWO, on, "no road")
        self.unchanged(InvalidPlaces, paired, self.book, ("t", None, (), (), None), TWO, ((0, 0),), "loops")
        for road in (None, True, 0, "", "Loops", "loop", "loops ", ("loops",), ["loops"], {}, (), 1):
            self.unchanged(InvalidRoad, paired, self.book, ONE, TWO, (), road)
            self.unchanged(InvalidRoad, paired, self.book, ("t", ("is", "a", 9), None, (), 0), TWO, ((3, 2),), road)


class TotalsTest(PairCase):
    def test_groups(self):
        self.assertEqual(totals(self.book, ONE, (2,), (0, 3)), [((None,), 1, (2, 2)), ((False,), 2, (3, 0)),
                                                                ((True,), 2, (5, 3))])
        self.assertEqual(totals(self.book, ONE, (3,), (3,)), [((None,), 1, (None,)), ((0,), 1, (0,)), ((1,), 1, (1,)),
                                                              ((2,), 2, (4,))])
        self.assertEqual(totals(self.book, ONE, (2, 1, 2), ()), [((None, "y", None), 1, ()), ((False, None, False), 1,
                                                                 ()), ((False, "0", False), 1, ()),
                                                                 ((True, "x", True), 2, ())])

    def test_no_groups_and_no_rows(self):
        self.assertEqual(totals(self.book, ONE, (), (0, 0, 3)), [((), 5, (10, 10, 5))])
        self.assertEqual(totals(self.book, ONE, (), ()), [((), 5, ())])
        nothing = ("t", ("is", "a", 9), None, (), None)
        self.assertEqual([totals(self.book, nothing, (), ()), totals(self.book, nothing, (1,), (0,))], [[], []])
        self.assertEqual(totals(self.book, ("t", None, None, (), 0), (), (0,)), [])
        self.assertEqual(totals(self.book, ("t", None, (), (), None), (), ()), [((), 5, ())])

    def test_the_rows_are_those_of_the_answer(self):
        question = ("t", ("not", ("none", "d")), ("d", "a"), (("a", True),), 3)
        self.assertEqual(totals(book=self.book, question=question, groups=(0,), sums=(1, 0)),
                         [((1,), 1, (4, 1)), ((2,), 2, (3, 4))])

    def test_large_sums(self):
        book = fresh_book(SCHEMA)
        for at in range(3):
            book.add("t", (at, None, None, 10 ** 30 - 1))
        self.assertEqual(totals(book, ONE, (), (3,)), [((), 3, (3 * 10 ** 30 - 3,))])

    def test_wrong_arguments(self):
        for value in WRONG:
            self.unchanged(InvalidQuestion, totals, self.book, value, (), ())
            self.unchanged(InvalidQuestion, totals, self.book, value, None, None)
        for places in WRONG_INDEXES:
            self.unchanged(InvalidPlaces, totals, self.book, ONE, places, ())
            self.unchanged(InvalidPlaces, totals, self.book, ONE, (), places)
        # Sums are of numbers alone.
        for places in ((1,), (2,), (0, 1), (3, 2)):
            self.unchanged(InvalidPlaces, totals, self.book, ONE, (), places)
        self.unchanged(InvalidPlaces, totals, self.book, ("t", None, ("a",), (), None), (1,), ())


if __name__ == "__main__":
    unittest.main()
