"""Looks: questions about the rows of a table, answered by any plan alike."""

from heldpasts.conditions import MOST_DEEP, is_name, is_nested, truth_for
from heldpasts.errors import InvalidPlan, InvalidQuestion, NoTable
from heldpasts.keys import row_code, value_code
from heldpasts.schemas import names_of, values_at
from heldpasts.stretches import NOTHING, bounds_for, stretch_told


def is_question(book, value):
    """Whether a value is a question (name, condition, columns, order, most) in a book."""
    if type(value) is not tuple or len(value) != 5 or not is_name(value[0]):
        return False
    try:
        schema = book.schema(value[0])
    except NoTable:
        return False
    return asks_of(names_of(schema[1]), value)


def asks_of(names, value):
    """Whether all parts of a tuple behind the first one ask of columns of these names."""
    condition, columns, order, most = value[1:]
    if condition is not None and not is_nested(names, condition, MOST_DEEP):
        return False
    if columns is not None and not are_members(names, columns):
        return False
    if type(order) is not tuple or not all([is_turn(names, turn) for turn in order]):
        return False
    return most is None or type(most) is int and most >= 0


def are_members(names, value):
    """Whether a value is a tuple of some names, perhaps () or one several times."""
    return type(value) is tuple and all([member in names for member in value])


def is_turn(names, value):
    """Whether a value is a tuple (column, down)."""
    return type(value) is tuple and len(value) == 2 and value[0] in names and type(value[1]) is bool


def asked_schema(book, question):
    """The schema of the table of which a question asks."""
    if not is_question(book, question):
        raise InvalidQuestion("this is no question in the book")
    return book.schema(question[0])


def plain_answer(book, question):
    """The answer, told by all rows of the table."""
    schema = asked_schema(book, question)
    return answer_from(schema, question, book.rows_of(question[0]))


def answer_from(schema, question, rows):
    """The answer, told by rows among which are all that meet the condition."""
    condition, columns, order, most = question[1:]
    names = names_of(schema[1])
    met = [row for row in rows if truth_for(names, condition, row) is True]
    picked = names if columns is None else columns
    return [values_at(schema, picked, row) for row in in_order(schema, order, met)[:most]]


def in_order(schema, order, rows):
    """The rows by the columns of an order, those alike in all of them by their key."""
    # A column that comes once more parts no rows that it has not parted already.
    turns = {}
    for column, down in order:
        turns.setdefault(column, down)
    names = names_of(schema[1])
    ordered = sorted(rows, key=lambda row: row_code(values_at(schema, schema[2], row)))
    # Each sorting keeps the order of alike rows, so the column that counts most comes last.
    for column, down in reversed(list(turns.items())):
        ordered = in_turn(ordered, names.index(column), down)
    return ordered


def in_turn(rows, place, down):
    """The rows by the values at a place, those alike there as they were."""
    if down:
        return sorted(rows, key=lambda row: value_code(row[place]), reverse=True)
    return sorted(rows, key=lambda row: value_code(row[place]))


def plans(book, question):
    """The list of the plans that go through each row that meets the condition."""
    schema = asked_schema(book, question)
    condition = question[1]
    found = [("all",), ("key",) + stretch_told(schema[2], condition)]
    for index_name, columns, alone in schema[3]:
        # An index that is alone has no entry of a row with None in it.
        if not alone or all([tells_of_some(column, condition) for column in columns]):
            found.append(("index", index_name) + stretch_told(columns, condition))
    return found


def tells_of_some(column, condition):
    """Whether a condition tells that no row that meets it has None at a column."""
    bounds = bounds_for(column, condition, True)
    return bounds == NOTHING or bounds[0] is not None and bounds[0] >= "1"


def plan_cost(book, question, plan):
    """How many keys a plan goes through."""
    check_plan(book, question, plan)
    return cost_of(book, question, plan)


def check_plan(book, question, plan):
    if plan not in plans(book, question):
        raise InvalidPlan("this is none of the plans of the question")


def cost_of(book, question, plan):
    return len(book.keys_through(question[0], plan))


def best_plan(book, question):
    """The first of the plans that go through the fewest keys."""
    found = plans(book, question)
    costs = [cost_of(book, question, plan) for plan in found]
    return found[costs.index(min(costs))]


def look(book, question, plan=None):
    """The answer, told by the rows through which a plan goes; by the best plan without one."""
    schema = asked_schema(book, question)
    if plan is None:
        plan = best_plan(book, question)
    else:
        check_plan(book, question, plan)
    rows = [book.row_at(question[0], key) for key in book.keys_through(question[0], plan)]
    return answer_from(schema, question, rows)
