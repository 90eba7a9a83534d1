"""Pairs of rows of two answers, by any road alike, and totals of an answer."""

from heldpasts.checks import is_number
from heldpasts.errors import InvalidPlaces, InvalidRoad
from heldpasts.keys import value_code
from heldpasts.looks import asked_schema, look
from heldpasts.schemas import names_of


def paired(book, question, other_question, on, road):
    """The list of the pairs of rows of two answers that have the same values at the told places."""
    width, other_width = [len(kinds_of(book, asked)) for asked in (question, other_question)]
    if type(on) is not tuple or not all([is_pair(member, width, other_width) for member in on]):
        raise InvalidPlaces("places are a tuple of tuples of two indexes")
    if type(road) is not str or road not in ROADS:
        raise InvalidRoad("a road is loops, order or marks")
    rows, others = look(book, question), look(book, other_question)
    go = ROADS[road]
    met = go(marks_of(rows, [one for one, _ in on]), marks_of(others, [other for _, other in on]))
    return [(rows[at], others[other_at]) for at, other_at in met]


def kinds_of(book, question):
    """The list of the kinds of the columns of a question's answer."""
    schema = asked_schema(book, question)
    kinds = {column: kind for column, kind, _ in schema[1]}
    picked = names_of(schema[1]) if question[2] is None else question[2]
    return [kinds[column] for column in picked]


def is_pair(value, width, other_width):
    """Whether a value is a tuple of a place in rows so wide and one in others."""
    if type(value) is not tuple or len(value) != 2:
        return False
    return is_number(value[0], 0, width - 1) and is_number(value[1], 0, other_width - 1)


def marks_of(rows, places):
    """For each row a text that another one has just if it has the same values at the places; None by a None there."""
    return [mark_of([row[place] for place in places]) for row in rows]


def mark_of(values):
    return None if None in values else "".join([value_code(value) for value in values])


def by_loops(marks, others):
    """The ascending list of the tuples (place, other place) of the same mark: each beside each."""
    return [(at, other_at) for at, mark in enumerate(marks) if mark is not None
            for other_at, other in enumerate(others) if mark == other]


def by_order(marks, others):
    """The same, along both lists in the order of the marks."""
    line, other_line = in_line(marks), in_line(others)
    found = []
    start = 0
    for mark, at in line:
        while start < len(other_line) and other_line[start][0] < mark:
            start += 1
        end = start
        while end < len(other_line) and other_line[end][0] == mark:
            found.append((at, other_line[end][1]))
            end += 1
    return sorted(found)


def in_line(marks):
    """The ascending list of the marks, each with its place."""
    return sorted([(mark, at) for at, mark in enumerate(marks) if mark is not None])


def by_marks(marks, others):
    """The same, by a dictionary from marks to places."""
    places = {}
    for other_at, other in enumerate(others):
        if other is not None:
            places.setdefault(other, []).append(other_at)
    return [(at, other_at) for at, mark in enumerate(marks) for other_at in places.get(mark, [])]


ROADS = {"loops": by_loops, "order": by_order, "marks": by_marks}


def totals(book, question, groups, sums):
    """The list of (values at groups, how many rows, sums) of the rows that are alike at groups."""
    kinds = kinds_of(book, question)
    check_places(groups, kinds, ("int", "text", "truth"))
    check_places(sums, kinds, ("int",))
    # A place that comes once more parts no groups, and changes not their order.
    unlike = list({place: True for place in groups})
    found = {}
    for row in look(book, question):
        code = "".join([value_code(row[place]) for place in unlike])
        found.setdefault(code, []).append(row)
    return [total_of(found[code], groups, sums) for code in sorted(found)]


def check_places(value, kinds, wanted):
    """A value is a tuple of the indexes of columns of a wanted kind."""
    if type(value) is not tuple or not all([is_number(place, 0, len(kinds) - 1) for place in value]):
        raise InvalidPlaces("places are a tuple of indexes in the rows")
    if not all([kinds[place] in wanted for place in value]):
        raise InvalidPlaces("there is no number at one of the places")


def total_of(rows, groups, sums):
    """What is told of rows that are alike at groups."""
    values = tuple([rows[0][place] for place in groups])
    return (values, len(rows), tuple([sum_at(rows, place) for place in sums]))


def sum_at(rows, place):
    """The sum of the values at a place that are not None, None without any."""
    found = [row[place] for row in rows if row[place] is not None]
    return sum(found) if found else None
