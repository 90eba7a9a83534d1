"""Schemas, conditions and rows for the tests, by chance, and what they say, read from the document once more."""

COLUMNS = ("a", "b", "c", "d")
VALUES = (None, False, True, 0, 1, -1, 7, 10 ** 30 - 1, "", "a", "b", "a b!")
WRONG_VALUES = (10 ** 30, -10 ** 30, "x" * 201, "\n", (), [], {}, ("a",))
SCHEMA = ("t", (("a", "int", False), ("b", "text", True), ("c", "truth", True)), ("a",),
          (("ia", ("b",), True), ("ib", ("c", "b"), False)), (("less", "a", 100), ("not", ("is", "b", "x"))))


def deep(many, inner=("none", "a")):
    """A condition nested so deep."""
    condition = inner
    for at in range(many - 1):
        condition = (("not", condition), ("and", condition, inner), ("or", inner, condition))[at % 3]
    return condition


def condition_by_chance(chance, columns, most=4):
    word = chance.choice(("is", "less", "most", "none", "and", "or", "not") if most > 1 else ("is", "less", "none"))
    if word in ("and", "or"):
        return (word,) + tuple(condition_by_chance(chance, columns, most - 1) for _ in range(2))
    if word == "not":
        return (word, condition_by_chance(chance, columns, most - 1))
    if word == "none":
        return (word, chance.choice(columns))
    return (word, chance.choice(columns), chance.choice(VALUES))


def plain_truth(condition, values):
    """The truth of a condition for a dictionary of values, unknown as 1, False as 0 and True as 2."""
    word = condition[0]
    if word == "and":
        return min(plain_truth(condition[1], values), plain_truth(condition[2], values))
    if word == "or":
        return max(plain_truth(condition[1], values), plain_truth(condition[2], values))
    if word == "not":
        return 2 - plain_truth(condition[1], values)
    value = values[condition[1]]
    if word == "none":
        return 2 if value is None else 0
    told = condition[2]
    if value is None or told is None or type(value) is not type(told):
        return 1
    return 2 * {"is": value == told, "less": value < told, "most": value <= told}[word]


def plain_fits(schema, row):
    """Whether a tuple of values fits, by the words."""
    kinds = {"int": int, "text": str, "truth": bool}
    if len(row) != len(schema[1]):
        return False
    for (_, kind, free), value in zip(schema[1], row):
        if type(value) is not kinds[kind] and not (value is None and free):
            return False
    values = {column[0]: value for column, value in zip(schema[1], row)}
    return all(plain_truth(check, values) > 0 for check in schema[4])


def schema_by_chance(chance, name="t", checks=True):
    names = chance.sample("abcdefgh", chance.randrange(1, 5))
    columns = tuple((column, chance.choice(("int", "text", "truth")), chance.randrange(3) == 0) for column in names)
    bound = [column[0] for column in columns if not column[2]]
    if not bound:
        columns = ((columns[0][0], columns[0][1], False),) + columns[1:]
        bound = [columns[0][0]]
    key = tuple(chance.sample(bound, chance.randrange(1, len(bound) + 1)))
    indexes = tuple((index, tuple(chance.sample(names, chance.randrange(1, len(names) + 1))), chance.randrange(2) == 0)
                    for index in sorted(chance.sample(("i", "ii", "j", "keyy", "z"), chance.randrange(4))))
    told = tuple(condition_by_chance(chance, names, 3) for _ in range(chance.randrange(3) if checks else 0))
    return (name, columns, key, indexes, told)


def value_of(chance, kind):
    return chance.choice({"int": (0, 1, 2, -3, 10 ** 20), "text": ("", "a", "b c", "!"), "truth": (False, True)}[kind])


def row_by_chance(chance, schema):
    """A row of the schema's kinds; its checks may refuse it."""
    return tuple(None if free and chance.randrange(3) == 0 else value_of(chance, kind) for _, kind, free in schema[1])


def values_at(schema, columns, row):
    names = [column[0] for column in schema[1]]
    return tuple(row[names.index(column)] for column in columns)
