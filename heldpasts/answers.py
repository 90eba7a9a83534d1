"""What a session answers to the commands that name it, each as a text."""

from heldpasts.books import Book
from heldpasts.errors import InvalidCode
from heldpasts.keys import row_code, values_told
from heldpasts.looks import best_plan, look, plan_cost
from heldpasts.script_texts import row_text, value_text

DONE = "ok"
NOTHING = "none"
# The value with which the codes begin at which texts lie.
FIRST = "p"


def text_key(text):
    """The key at which what is put for a text lies."""
    return row_code((FIRST, text))


def text_at(key):
    """The text for which a key is the one at which something lies, or None."""
    try:
        told = values_told(key)
    except InvalidCode:
        return None
    return told[1] if len(told) == 2 else None


def put_answer(session, text, told):
    session.put(text_key(text), told)
    return DONE


def take_answer(session, text):
    session.take(text_key(text))
    return DONE


def get_answer(session, text):
    return value_text(session.value_at(text_key(text)))


def range_answer(session, low, high):
    head = row_code((FIRST,))
    # Behind the head the codes of texts begin with t, and nothing else does.
    first = head + "t" if low is None else text_key(low)
    end = head + "u" if high is None else text_key(high)
    found = [(text_at(key), told) for key, told in session.entries(first, end)]
    lines = [value_text(text) + " " + value_text(told) for text, told in found if text is not None]
    return "; ".join(lines) if lines else NOTHING


def table_answer(session, schema):
    Book(session).make(schema)
    return DONE


def untable_answer(session, table):
    Book(session).drop(table)
    return DONE


def index_answer(session, table, index_name, columns, alone):
    Book(session).add_index(table, (index_name, columns, alone))
    return DONE


def unindex_answer(session, table, index_name):
    Book(session).take_index(table, index_name)
    return DONE


def add_answer(session, table, row):
    Book(session).add(table, row)
    return DONE


def change_answer(session, table, key_values, row):
    Book(session).change(table, key_values, row)
    return DONE


def remove_answer(session, table, key_values):
    Book(session).take(table, key_values)
    return DONE


def row_answer(session, table, key_values):
    row = Book(session).row_at(table, key_values)
    return NOTHING if row is None else row_text(row)


def look_answer(session, question):
    rows = look(Book(session), question)
    return "; ".join([row_text(row) for row in rows]) if rows else NOTHING


def plan_answer(session, question):
    book = Book(session)
    plan = best_plan(book, question)
    # The word of a plan and an index's name stand as they are, the bounds behind them as texts.
    plain = 2 if plan[0] == "index" else 1
    words = list(plan[:plain]) + [value_text(bound) for bound in plan[plain:]]
    return " ".join(words + [str(plan_cost(book, question, plan))])


ANSWERS = {"put": put_answer, "take": take_answer, "get": get_answer, "range": range_answer, "table": table_answer,
           "untable": untable_answer, "index": index_answer, "unindex": unindex_answer, "add": add_answer,
           "change": change_answer, "remove": remove_answer, "row": row_answer, "look": look_answer,
           "plan": plan_answer}
