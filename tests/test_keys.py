from random import Random
import unittest

from heldpasts.errors import InvalidCode, InvalidRow, InvalidText, InvalidValue
from heldpasts.keys import row_code, value_code, values_told
from tests.helpers import WRONG_TEXTS, Case, exchanged

GREATEST = 10 ** 30 - 1
SIGNS = [chr(number) for number in range(32, 127)]
# All values of these are in their order.
VALUES = [None, False, True, -GREATEST, -10 ** 29, -10 ** 29 + 1, -100, -99, -98, -12, -11, -10, -9, -8, -7, -2, -1, 0,
          1, 2, 7, 8, 9, 10, 11, 12, 98, 99, 100, 10 ** 29 - 1, 10 ** 29, GREATEST,
          "", " ", "  ", " !", " a", "!", "! ", "!!", "!a", '"', "0", "A", "a", "a ", "a  ", "a!", "a!a", "aa", "ab",
          "b", "~", "~ ", "~~", "~" * 200]
# Whatever the beginning of a code, one of these ends it.
ENDS = ["", " ", "a ", "A1", "_1"] + ["1" * many for many in range(1, 31)]
NO_VALUES = [10 ** 30, -10 ** 30, 10 ** 89, "a" * 201, "\n", "a\x7f", (), ("a",), [], [1], {}, ((1,),)]


def tells(code):
    try:
        values_told(code)
    except InvalidCode:
        return False
    return True


class CodesTest(Case):
    def test_example(self):
        self.assertEqual([row_code((None, 12, -7, "a b")), values_told("2o"), value_code(10)],
                         ["0pB12n_2ta!ab ", (True, 0), "pB10"])
        self.assertEqual(self.refused(InvalidCode, values_told, "0pA0").index, 3)

    def test_each_kind_at_its_bounds(self):
        codes = [(None, "0"), (False, "1"), (True, "2"), (0, "o"), (1, "pA1"), (9, "pA9"), (10, "pB10"), (-1, "n_8"),
                 (-9, "n_0"), (-10, "n^89"), (-19, "n^80"), (GREATEST, "p^" + "9" * 30), (-GREATEST, "nB" + "0" * 30),
                 (10 ** 29, "p^1" + "0" * 29), (-10 ** 29, "nB8" + "9" * 29), (10 ** 26, "p[1" + "0" * 26),
                 (10 ** 27, "p\\1" + "0" * 27), (10 ** 28, "p]1" + "0" * 28), ("", "t "), (" ", "t!a "), ("!", "t!b "),
                 ("! !a", "t!b!a!ba "), ("~" * 200, "t" + "~" * 200 + " "), ("!" * 200, "t" + "!b" * 200 + " ")]
        for value, code in codes:
            self.assertEqual(value_code(value=value), code)
            self.assertEqual(values_told(code=code), (value,))
            self.assertIs(type(values_told(code)[0]), type(value))

    def test_rows(self):
        self.assertEqual((row_code(()), values_told("")), ("", ()))
        self.assertEqual(row_code(values=(1, True, "1", None, 0, False)), "pA12t1 0o1")
        told = values_told("pA12t1 0o1")
        self.assertEqual(repr(told), "(1, True, '1', None, 0, False)")
        many = tuple(VALUES) * 3
        self.assertEqual(repr(values_told(row_code(many))), repr(many))

    def test_what_is_no_value(self):
        self.refused_each(InvalidValue, value_code, NO_VALUES)
        for value in NO_VALUES:
            self.refused(InvalidRow, row_code, (value,))
            self.refused(InvalidRow, row_code, (1, "a", value, None))
        self.refused_each(InvalidRow, row_code, [[], [1], None, True, 1, "", "a", {}])

    def test_what_is_no_text(self):
        self.refused_each(InvalidText, values_told, WRONG_TEXTS + ("o\n",))

    def test_codes_go_in_the_order_of_the_values(self):
        codes = [value_code(value) for value in VALUES]
        self.assertEqual(codes, sorted(codes))
        self.assertEqual(len(set(codes)), len(codes))
        for one in codes:
            self.assertFalse([other for other in codes if other != one and other.startswith(one)])
        place = {repr(value): at for at, value in enumerate(VALUES)}
        for seed in range(3000):
            chance = Random(seed)
            rows = [tuple(chance.choice(VALUES) for _ in range(chance.randrange(4))) for _ in range(2)]
            ranks = [[place[repr(value)] for value in row] for row in rows]
            self.assertEqual(row_code(rows[0]) < row_code(rows[1]), ranks[0] < ranks[1], rows)

    def test_signs_in_texts(self):
        for sign in SIGNS:
            for text in (sign, sign * 3, "a" + sign, sign + "b"):
                code = row_code((text, 5, text))
                self.assertEqual(values_told(code), (text, 5, text))


class NoCodesTest(Case):
    def test_told_indexes(self):
        cases = [("x", 0), ("3", 0), ("oo3", 2), ("p", 1), ("pA", 2), ("p@", 1), ("p_", 1), ("p`1", 1), ("p0", 1),
                 ("pa", 1),
                 ("pA0", 2), ("pAx", 2), ("pB1", 3), ("pB1x", 3), ("pB01", 2), ("pB1 ", 3), ("pA13", 3), ("n", 1),
                 ("n_", 2),
                 ("n_9", 2), ("n`0", 1), ("nA0", 1), ("n@", 1), ("n^9", 2), ("n^0", 3), ("n^0x", 3), ("n_x", 2),
                 ("n_/", 2),
                 ("t", 1), ("tabc", 4), ("t!", 2), ("t!c", 2), ("t! ", 2), ("t!A", 2), ("t!!", 2), ("ta", 2),
                 ("t  ", 2),
                 (" ", 0), ("!", 0), ("t o ", 3), ("p^" + "1" * 29, 31), ("nB" + "0" * 29, 31),
                 ("p^" + "1" * 30 + "3", 32)]
        cases += [("t" + "a" * 200, 201), ("t" + "a" * 201, 201), ("t" + "a" * 201 + " ", 201), ("t" + "!a" * 200, 401),
                  ("t" + "!a" * 200 + "!a ", 401), ("t" + "!b" * 200 + "!", 401), ("t" + "a" * 199 + "!", 201),
                  ("t" + "a" * 200 + "!", 201), ("2o" + "t" + "a" * 201 + " ", 203)]
        for code, index in cases:
            with self.subTest(code=code):
                self.assertEqual(self.refused(InvalidCode, values_told, code).index, index)

    def check(self, code):
        """What is told has this very code; else the index is that of the first sign that no code has there."""
        try:
            told = values_told(code)
        except InvalidCode as error:
            index = error.index
        else:
            self.assertEqual(row_code(told), code)
            return
        self.assertTrue(any(tells(code[:index] + end) for end in ENDS), code)
        if index < len(code):
            self.assertFalse(any(tells(code[:index + 1] + end) for end in ENDS), code)

    def test_codes_near_to_codes(self):
        for row in ((None, 12, -7, "a b"), ("!", -10, True), (0, "", 305), (-305, False)):
            for code in exchanged(row_code(row), "0129ABnoptx^_`@! ab~"):
                self.check(code)

    def test_codes_cut_off_at_each_place(self):
        row = (None, GREATEST, -GREATEST, "a !b", -7, 0, "", True)
        code = row_code(row)
        whole = {len(row_code(row[:many])) for many in range(len(row) + 1)}
        for at in range(len(code) + 1):
            if at in whole:
                self.assertEqual(row_code(values_told(code[:at])), code[:at])
            else:
                self.assertEqual(self.refused(InvalidCode, values_told, code[:at]).index, at)

    def test_short_codes_by_chance(self):
        for seed in range(4000):
            chance = Random(seed)
            self.check("".join(chance.choice("012noptABC^]_`@! ab09") for _ in range(chance.randrange(9))))


if __name__ == "__main__":
    unittest.main()
