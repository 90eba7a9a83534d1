"""Commands of a server: what a text tells, and the text of what is told."""

from heldpasts.checks import is_number
from heldpasts.conditions import MOST_DEEP, is_name
from heldpasts.errors import InvalidCommand, Refused
from heldpasts.keys import is_row, is_value
from heldpasts.schemas import KINDS
from heldpasts.script_reader import FLAT, NESTED, SHAPES, Script

MOST_COUNT = 99999999


def command_told(command):
    """The tuple of the word and the pieces of a command."""
    if type(command) is not str:
        raise InvalidCommand(0)
    return Script(command).told_pieces()


def value_text(value):
    """The VALUE of a value."""
    if value is None:
        return "none"
    if type(value) is bool:
        return "true" if value else "false"
    if type(value) is str:
        return "'" + value.replace("'", "''") + "'"
    return str(value)


def command_text(pieces):
    """The command that tells these pieces."""
    need(type(pieces) is tuple and len(pieces) > 0 and type(pieces[0]) is str)
    need(pieces[0] in SHAPES)
    shape = SHAPES[pieces[0]]
    need(len(pieces) == 1 + len(shape))
    words = [pieces[0]] + [words_for(kind, piece) for kind, piece in zip(shape, pieces[1:])]
    return " ".join([word for word in words if word != ""])


def need(is_right):
    if not is_right:
        raise Refused("no command tells this")


def name_text(piece):
    need(is_name(piece))
    return piece


def count_text(piece):
    need(is_number(piece, 0, MOST_COUNT))
    return str(piece)


def quoted_text(piece):
    need(type(piece) is str)
    return told_value_text(piece)


def told_value_text(piece):
    need(is_value(piece))
    return value_text(piece)


def bound_text(piece):
    return "none" if piece is None else quoted_text(piece)


def list_text(members):
    """The members between brackets."""
    return "( " + " , ".join(members) + " )" if members else "( )"


def row_text(piece):
    need(is_row(piece))
    return list_text([value_text(value) for value in piece])


def columns_text(piece):
    need(piece != ())
    return given_text(piece)


def given_text(piece):
    need(type(piece) is tuple)
    return list_text([name_text(column) for column in piece])


def alone_text(piece):
    need(type(piece) is bool)
    return "alone" if piece else ""


def condition_text(condition, deep=MOST_DEEP):
    need(type(condition) is tuple and len(condition) > 1 and deep > 0)
    word = condition[0]
    need(word in FLAT + NESTED)
    need(len(condition) == (2 if word in ("none", "not") else 3))
    if word in NESTED:
        parts = [condition_text(part, deep - 1) for part in condition[1:]]
    else:
        parts = [name_text(condition[1])] + [told_value_text(value) for value in condition[2:]]
    return " ".join([word] + parts)


def column_text(column):
    need(type(column) is tuple and len(column) == 3)
    name, kind, free = column
    need(kind in KINDS and type(free) is bool)
    return name_text(name) + " " + kind + (" free" if free else "")


def schema_words(schema):
    need(type(schema) is tuple and len(schema) == 5)
    name, columns, key, indexes, checks = schema
    need(type(columns) is tuple and columns != () and type(indexes) is tuple and not indexes)
    need(type(checks) is tuple)
    words = [name_text(name), list_text([column_text(column) for column in columns]), "key", columns_text(key)]
    return " ".join(words + ["check " + condition_text(check) for check in checks])


def turn_text(turn):
    need(type(turn) is tuple and len(turn) == 2)
    need(type(turn[1]) is bool)
    return name_text(turn[0]) + (" down" if turn[1] else "")


def question_words(question):
    need(type(question) is tuple and len(question) == 5)
    name, condition, columns, order, most = question
    need(type(order) is tuple)
    words = [name_text(name)]
    if condition is not None:
        words.append("where " + condition_text(condition))
    if columns is not None:
        words.append("give " + given_text(columns))
    if order:
        words.append("order " + list_text([turn_text(turn) for turn in order]))
    if most is not None:
        words.append("most " + count_text(most))
    return " ".join(words)


WRITERS = {"name": name_text, "count": count_text, "text": quoted_text, "bound": bound_text, "row": row_text,
         "columns": columns_text, "alone": alone_text, "schema": schema_words, "question": question_words}


def words_for(kind, piece):
    """The words of a piece of a command; "" of one that stands without a word."""
    write = WRITERS[kind]
    return write(piece)
