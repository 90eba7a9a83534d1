"""Questions for the tests, by chance, and their answers read from the words of the document."""

from heldpasts.keys import value_code
from tests.rows import condition_by_chance, plain_truth, values_at


def question_by_chance(chance, schema):
    """A question about the table of a schema."""
    names = [column[0] for column in schema[1]]
    condition = None if chance.randrange(5) == 0 else condition_by_chance(chance, names, 4)
    columns = None if chance.randrange(3) == 0 else tuple(chance.choice(names) for _ in range(chance.randrange(4)))
    order = tuple((chance.choice(names), chance.randrange(2) == 0) for _ in range(chance.randrange(4)))
    return (schema[0], condition, columns, order, chance.choice((None, None, 0, 1, 2, 5, 10 ** 80)))


def is_ahead(schema, order, one, other):
    """Whether a row stands ahead of another one, column by column, then by the key."""
    for column, down in order + tuple((column, False) for column in schema[2]):
        code, other_code = [value_code(values_at(schema, (column,), row)[0]) for row in (one, other)]
        if code != other_code:
            return (other_code < code) if down else (code < other_code)
    return False


def plain_look(schema, question, rows):
    """The plain answer: each row goes in behind all that stand ahead of it."""
    _, condition, columns, order, most = question
    names = tuple(column[0] for column in schema[1])
    met = []
    for row in rows:
        if condition is None or plain_truth(condition, dict(zip(names, row))) == 2:
            place = sum(is_ahead(schema, order, other, row) for other in met)
            met.insert(place, row)
    return [values_at(schema, names if columns is None else columns, row) for row in met[:most]]
