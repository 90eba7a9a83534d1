"""Reads a command sign by sign; where no command goes on, the index of this sign is told."""

from heldpasts.conditions import MOST_DEEP, MOST_LETTERS
from heldpasts.errors import InvalidCommand
from heldpasts.keys import MOST_DIGITS, MOST_SIGNS
from heldpasts.schemas import KINDS

MOST_COUNT_DIGITS = 8
# What stands behind the word of each command.
SHAPES = {
    "begin": ("name",), "serial": ("name",), "past": ("name", "count"), "commit": ("name",), "later": ("name",),
    "drop": ("name",), "prepare": ("name", "name"), "settle": ("name",), "letgo": ("name",), "sync": (),
    "put": ("name", "text", "text"), "take": ("name", "text"), "get": ("name", "text"),
    "range": ("name", "bound", "bound"), "table": ("name", "schema"), "untable": ("name", "name"),
    "index": ("name", "name", "name", "columns", "alone"), "unindex": ("name", "name", "name"),
    "add": ("name", "name", "row"), "change": ("name", "name", "row", "row"), "remove": ("name", "name", "row"),
    "row": ("name", "name", "row"), "look": ("name", "question"), "plan": ("name", "question"),
    "vacuum": ("count",), "checkpoint": (), "order": (), "state": (),
}
SINGLES = {"none": None, "true": True, "false": False}
FLAT = ("is", "less", "most", "none")
NESTED = ("and", "or", "not")
CLAUSES = ("where", "give", "order", "most")


class Script:
    """Goes along a command."""

    def __init__(self, command):
        self.command = command
        self.at = 0

    def sign(self):
        """The next sign, "" behind the last one."""
        return self.command[self.at:self.at + 1]

    def is_behind(self):
        return self.at == len(self.command)

    def told_word(self, words):
        """The one of some words, of which none begins another one, that stands here."""
        word = ""
        while word not in words:
            longer = word + self.sign()
            if self.is_behind() or not any([other.startswith(longer) for other in words]):
                raise InvalidCommand(self.at)
            word = longer
            self.at += 1
        return word

    def space(self):
        self.told_word((" ",))

    def told_name(self):
        start = self.at
        while self.at < start + MOST_LETTERS and "a" <= self.sign() <= "z":
            self.at += 1
        if self.at == start:
            raise InvalidCommand(start)
        return self.command[start:self.at]

    def told_digits(self, most):
        """The number that at most so many digits tell, without a needless 0 ahead."""
        start = self.at
        while self.at < start + most and "0" <= self.sign() <= "9" and self.command[start:self.at] != "0":
            self.at += 1
        if self.at == start:
            raise InvalidCommand(start)
        return int(self.command[start:self.at])

    def told_count(self):
        return self.told_digits(MOST_COUNT_DIGITS)

    def told_text(self):
        self.told_word(("'",))
        signs = []
        while not self.is_text_end(len(signs)):
            sign = self.sign()
            if len(signs) == MOST_SIGNS or not " " <= sign <= "~":
                raise InvalidCommand(self.at)
            signs.append(sign)
            self.at += 2 if sign == "'" else 1
        self.at += 1
        return "".join(signs)

    def is_text_end(self, many):
        """Whether a quote ends the text here; behind as many signs as a text may have none is a doubled one."""
        if self.sign() != "'":
            return False
        return many == MOST_SIGNS or self.command[self.at + 1:self.at + 2] != "'"

    def told_bound(self):
        if self.sign() == "'":
            return self.told_text()
        self.told_word(("none",))
        return None

    def told_value(self):
        sign = self.sign()
        if sign == "'":
            return self.told_text()
        if "0" <= sign <= "9":
            return self.told_digits(MOST_DIGITS)
        if sign != "-":
            return SINGLES[self.told_word(("none", "true", "false"))]
        self.at += 1
        if self.sign() == "0":
            raise InvalidCommand(self.at)
        return -self.told_digits(MOST_DIGITS)

    def told_list(self, read, mark=None, may_be_empty=False):
        """The list of the members between brackets, each with whether the mark stands behind it."""
        self.told_word(("(",))
        self.space()
        if may_be_empty and self.sign() == ")":
            self.at += 1
            return []
        members = []
        word = ","
        while word == ",":
            if members:
                self.space()
            member = read()
            self.space()
            word = self.told_word((",", ")") if mark is None else (",", ")", mark))
            is_marked = word == mark
            if is_marked:
                self.space()
                word = self.told_word((",", ")"))
            members.append((member, is_marked))
        return members

    def told_row(self):
        return tuple([value for value, _ in self.told_list(self.told_value, may_be_empty=True)])

    def told_columns(self):
        return tuple([column for column, _ in self.told_list(self.told_name)])

    def told_alone(self):
        """Whether the word alone stands behind all the rest."""
        if self.is_behind():
            return False
        self.space()
        self.told_word(("alone",))
        return True

    def told_condition(self, deep=MOST_DEEP):
        word = self.told_word(FLAT + NESTED if deep > 1 else FLAT)
        self.space()
        if word == "not":
            return (word, self.told_condition(deep - 1))
        if word in NESTED:
            one = self.told_condition(deep - 1)
            self.space()
            return (word, one, self.told_condition(deep - 1))
        column = self.told_name()
        if word == "none":
            return (word, column)
        self.space()
        return (word, column, self.told_value())

    def told_column(self):
        """A column's name and its kind."""
        column = self.told_name()
        self.space()
        return (column, self.told_word(KINDS))

    def told_schema(self):
        name = self.told_name()
        self.space()
        columns = tuple([(column, kind, free) for (column, kind), free in self.told_list(self.told_column, "free")])
        self.space()
        self.told_word(("key",))
        self.space()
        key = self.told_columns()
        checks = []
        while not self.is_behind():
            self.space()
            self.told_word(("check",))
            self.space()
            checks.append(self.told_condition())
        return (name, columns, key, (), tuple(checks))

    def told_question(self):
        name = self.told_name()
        found = {"where": None, "give": None, "order": (), "most": None}
        left = CLAUSES
        while left and not self.is_behind():
            self.space()
            word = self.told_word(left)
            left = left[left.index(word) + 1:]
            self.space()
            found[word] = self.told_clause(word)
        return (name, found["where"], found["give"], found["order"], found["most"])

    def told_clause(self, word):
        """What stands behind one of the words of a question."""
        if word == "where":
            return self.told_condition()
        if word == "give":
            return tuple([column for column, _ in self.told_list(self.told_name, may_be_empty=True)])
        if word == "order":
            return tuple(self.told_list(self.told_name, "down", True))
        return self.told_count()

    def told_piece(self, kind):
        """The next piece of a command."""
        if kind == "alone":
            return self.told_alone()
        self.space()
        reads = {"name": self.told_name, "count": self.told_count, "text": self.told_text, "bound": self.told_bound,
                 "row": self.told_row, "columns": self.told_columns, "schema": self.told_schema,
                 "question": self.told_question}
        read = reads[kind]
        return read()

    def told_pieces(self):
        """The tuple of the command's word and its pieces."""
        word = self.told_word(list(SHAPES))
        pieces = [word]
        for kind in SHAPES[word]:
            pieces.append(self.told_piece(kind))
        if not self.is_behind():
            raise InvalidCommand(self.at)
        return tuple(pieces)
