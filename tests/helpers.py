"""What the tests of several files have in common."""

import unittest

from heldpasts.errors import StoreError

WRONG_INTEGERS = (None, True, False, "", "1", (), (1,), [], [1], {})
WRONG_TEXTS = (None, True, False, 0, 7, (), ("a",), [], ["a"], {}, "\n", "a\tb", "\x7f", "\x1f", "a\x00", "\u00e9")


class Case(unittest.TestCase):
    def refused(self, kind, call, *members, **names):
        """The error of just this kind that the call raises."""
        try:
            told = call(*members, **names)
        except StoreError as error:
            self.assertIs(type(error), kind, (members, names))
            return error
        self.fail(f"{kind.__name__} was not raised by {members} {names}, which told {told!r}")

    def refused_each(self, kind, call, values, *before):
        """The call raises just this kind of error for each of these values as its last argument."""
        for value in values:
            with self.subTest(value=value):
                self.refused(kind, call, *before, value)


def exchanged(text, signs):
    """Texts near to a text: a sign exchanged, left out, put in, or the end cut off."""
    near = {text[:at] for at in range(len(text))}
    for at in range(len(text) + 1):
        near.add(text[:at] + text[at + 1:])
        for sign in signs:
            near.add(text[:at] + sign + text[at + 1:])
            near.add(text[:at] + sign + text[at:])
    near.discard(text)
    return sorted(near)
