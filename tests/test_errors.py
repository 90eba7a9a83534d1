import unittest

import heldpasts.errors as errors
from tests.helpers import Case

PLAIN = """InvalidSigns InvalidImage InvalidCount InvalidIndex InvalidBlock InvalidChoice InvalidText InvalidArea
InvalidRecord InvalidChanges InvalidNumber InvalidRow InvalidValue InvalidCondition InvalidSchema InvalidName
InvalidQuestion InvalidPlaces InvalidPlan InvalidRoad InvalidHistory InvalidEntries InvalidLetter PowerCut LogFull
NoStore PageKept StoreFull Ended Refused""".split()
KEEPING = {
    "InvalidCode": "index", "InvalidCommand": "index", "TooMany": "count", "TooLong": "text", "TooOld": "past",
    "Conflict": "lot", "Held": "lot", "NotSerial": "ring", "NoTable": "name", "NoName": "name", "NoIndex": "name",
    "Taken": "word", "Alike": "pair", "Missing": "row",
}


class ErrorsTest(Case):
    def test_just_these_classes_are_there(self):
        found = [name for name, value in vars(errors).items() if isinstance(value, type)]
        self.assertEqual(sorted(found), sorted(["StoreError"] + PLAIN + list(KEEPING)))

    def test_each_is_directly_under_store_error(self):
        self.assertEqual(errors.StoreError.__bases__, (ValueError,))
        for name in PLAIN + list(KEEPING):
            self.assertEqual(getattr(errors, name).__bases__, (errors.StoreError,), name)
            self.assertEqual(getattr(errors, name).__module__, "heldpasts.errors")

    def test_plain_ones_take_one_free_string(self):
        for name in PLAIN + ["StoreError"]:
            self.assertEqual(str(getattr(errors, name)("some words")), "some words")

    def test_the_others_keep_the_very_value(self):
        values = (0, -1, 10 ** 89, "", "a", None, True, (), (1, ("a",)), [], [1, [2]], {}, b"x", object())
        for name, field in KEEPING.items():
            for value in values:
                kind = getattr(errors, name)
                self.assertIs(getattr(kind(value), field), value)
                self.assertIs(getattr(kind(**{field: value}), field), value)

    def test_the_others_take_just_one_value(self):
        for name, field in KEEPING.items():
            kind = getattr(errors, name)
            with self.assertRaises(TypeError):
                kind()
            with self.assertRaises(TypeError):
                kind(1, 2)

    def test_each_is_caught_as_store_error_and_as_value_error(self):
        for name in PLAIN + list(KEEPING):
            for wider in (errors.StoreError, ValueError):
                with self.assertRaises(wider):
                    raise getattr(errors, name)("x")


if __name__ == "__main__":
    unittest.main()
