from random import Random
import unittest

from heldpasts.errors import InvalidName, InvalidRow, InvalidSchema
from heldpasts.keys import row_code
from heldpasts.tables import index_entries, row_key, schema_key, stretch_of, table_stretches
from tests.helpers import Case
from tests.rows import SCHEMA, VALUES, plain_fits, row_by_chance, schema_by_chance, values_at
from tests.test_conditions import WRONG_ROWS
from tests.test_holds import WRONG_NAMES
from tests.test_schemas import WRONG_SCHEMAS


class KeyTest(Case):
    def test_schema_key(self):
        self.assertEqual(schema_key("t"), "ts tt ")
        self.assertEqual(schema_key(name="abcdefgh"), "ts tabcdefgh ")
        self.refused_each(InvalidName, schema_key, WRONG_NAMES)

    def test_row_key(self):
        self.assertEqual(row_key(SCHEMA, (7,)), "tr tt pA7")
        # Whatever is no row's key is right, too.
        for values in ((), ("x",), (1, 2, 3, 4, 5, 6, 7, 8, 9), (None,), (True, " ")):
            self.assertEqual(row_key(schema=SCHEMA, key_values=values), "tr tt " + row_code(values))
        for values in WRONG_ROWS:
            self.refused(InvalidRow, row_key, SCHEMA, values)
        for schema in WRONG_SCHEMAS:
            self.refused(InvalidSchema, row_key, schema, (1,))
            self.refused(InvalidSchema, row_key, schema, None)

    def test_index_entries(self):
        alone, shared = "tu tt tia ", "ti tt tib "
        self.assertEqual(index_entries(SCHEMA, (7, "a", True)), ((alone + "ta ", "pA7"), (shared + "2ta pA7", "")))
        self.assertEqual(index_entries(schema=SCHEMA, row=(7, None, True)), ((shared + "20pA7", ""),))
        self.assertEqual(index_entries(SCHEMA, (-7, "", None)), ((alone + "t ", "n_2"), (shared + "0t n_2", "")))
        self.assertEqual(index_entries(SCHEMA, (0, None, None)), ((shared + "00o", ""),))
        self.assertEqual(index_entries(SCHEMA[:3] + ((), ()), (0, None, None)), ())

    def test_entries_by_chance(self):
        for seed in range(400):
            chance = Random(seed)
            schema = schema_by_chance(chance)
            row = row_by_chance(chance, schema)
            if not plain_fits(schema, row):
                self.refused(InvalidRow, index_entries, schema, row)
                continue
            entries, key = [], values_at(schema, schema[2], row)
            for name, columns, alone in schema[3]:
                values = values_at(schema, columns, row)
                if not alone:
                    entries.append((row_code(("i", "t", name) + values + key), ""))
                elif all(value is not None for value in values):
                    entries.append((row_code(("u", "t", name) + values), row_code(key)))
            self.assertEqual(index_entries(schema, row), tuple(entries))

    def test_errors_of_index_entries(self):
        for row in WRONG_ROWS + ((), (1, "a"), (1, "a", True, 1), (True, "a", True), (100, "a", True), (1, "x", None)):
            self.refused(InvalidRow, index_entries, SCHEMA, row)
        for schema in WRONG_SCHEMAS:
            self.refused(InvalidSchema, index_entries, schema, (1, "a", True))
            self.refused(InvalidSchema, index_entries, schema, None)


class StretchTest(Case):
    def test_table_stretches(self):
        self.assertEqual(table_stretches("t"), (("ti tt ", "ti tt!"), ("tr tt ", "tr tt!"), ("tu tt ", "tu tt!")))
        self.assertEqual(table_stretches(name="abcdefgh")[1], ("tr tabcdefgh ", "tr tabcdefgh!"))
        self.refused_each(InvalidName, table_stretches, WRONG_NAMES)

    def test_all_texts_that_begin_with_a_code(self):
        signs = [chr(number) for number in range(32, 127)]
        for value in VALUES + (9, 19, 10 ** 29, -1, -9, -10):
            low, high = stretch_of(row_code((value,)))
            self.assertEqual(low, row_code((value,)))
            self.assertEqual((high[:-1], ord(high[-1])), (low[:-1], ord(low[-1]) + 1))
            self.assertTrue(all(low <= low + sign < high for sign in signs))
            self.assertFalse(any(low <= low[:-1] + sign < high for sign in signs if sign != low[-1]))

    def test_no_table_lies_in_anothers(self):
        for name, other in (("t", "tt"), ("a", "b"), ("ab", "aba")):
            for (low, high), (other_low, other_high) in zip(table_stretches(name), table_stretches(other)):
                self.assertTrue(high <= other_low or other_high <= low)


if __name__ == "__main__":
    unittest.main()
