"""The language of the server once more: its grammar, gone along sign by sign, and commands by chance."""

from tests.rows import condition_by_chance

LETTERS = "abcdefghijklmnopqrstuvwxyz"
SIGNS = "".join(chr(at) for at in range(32, 127))
NAMES = ("a", "b", "t", "none", "order", "abcdefgh", "free", "alone", "key")
COMMANDS = """begin NAME | serial NAME | past NAME NUMBER | commit NAME | later NAME | drop NAME | prepare NAME NAME
| settle NAME | letgo NAME | sync | put NAME TEXT TEXT | take NAME TEXT | get NAME TEXT | range NAME BOUND BOUND
| table NAME SCHEMA | untable NAME NAME | index NAME NAME NAME COLUMNS ALONE | unindex NAME NAME NAME
| add NAME NAME ROW | change NAME NAME ROW ROW | remove NAME NAME ROW | row NAME NAME ROW | look NAME QUESTION
| plan NAME QUESTION | vacuum NUMBER | checkpoint | order | state"""
SHAPES = [tuple(line.split()) for line in COMMANDS.split("|")]


def words(text):
    """The signs of a fixed text, one symbol each."""
    return tuple(("one of", sign) for sign in text)


def options(symbol):
    """The ways to go on that a symbol offers: tuples of symbols; ("one of", signs) takes one of these signs."""
    name, more = symbol
    if name == "up to":
        return [(), (("one of", more[0]), ("up to", (more[0], more[1] - 1)))] if more[1] else [()]
    if name == "TEXT":
        return [words("'") + (("text", 200),)]
    if name == "text":
        signs = [(("one of", SIGNS.replace("'", "")), ("text", more - 1)), words("''") + (("text", more - 1),)]
        return [words("'")] + (signs if more else [])
    if name == "digits":
        return [words("0"), (("one of", "123456789"), ("up to", ("0123456789", more - 1)))]
    if name == "list":
        # The members between brackets, each of them one of the told symbols.
        return [words("( ") + (more, ("list on", more))]
    if name == "list on":
        return [words(" )"), words(" , ") + (more, ("list on", more))]
    if name == "CONDITION":
        flat = [words(word + " ") + (("NAME", 0),) + words(" ") + (("VALUE", 0),) for word in ("is", "less", "most")]
        flat.append(words("none ") + (("NAME", 0),))
        if more == 1:
            return flat
        one = (("CONDITION", more - 1),)
        return flat + [words("not ") + one] + [words(word + " ") + one + words(" ") + one for word in ("and", "or")]
    return {"NAME": [(("one of", LETTERS), ("up to", (LETTERS, 7)))], "NUMBER": [(("digits", 8),)],
            "BOUND": [(("TEXT", 0),), words("none")],
            "VALUE": [(("TEXT", 0),), words("none"), words("true"), words("false"), (("digits", 30),),
                      words("-") + (("one of", "123456789"), ("up to", ("0123456789", 29)))],
            "ROW": [words("( )"), (("list", ("VALUE", 0)),)], "COLUMNS": [(("list", ("NAME", 0)),)],
            "ALONE": [(), words(" alone")],
            "COLUMN": [(("NAME", 0),) + words(" " + kind) + free for kind in ("int", "text", "truth")
                       for free in ((), words(" free"))],
            "SCHEMA": [(("NAME", 0),) + words(" ") + (("list", ("COLUMN", 0)),) + words(" key ")
                       + (("COLUMNS", 0), ("CHECKS", 0))],
            "CHECKS": [(), words(" check ") + (("CONDITION", 12), ("CHECKS", 0))],
            "TURN": [(("NAME", 0),), (("NAME", 0),) + words(" down")],
            "QUESTION": [(("NAME", 0), ("WHERE", 0), ("GIVE", 0), ("ORDER", 0), ("MOST", 0))],
            "WHERE": [(), words(" where ") + (("CONDITION", 12),)],
            "GIVE": [(), words(" give ( )"), words(" give ") + (("COLUMNS", 0),)],
            "ORDER": [(), words(" order ( )"), words(" order ") + (("list", ("TURN", 0)),)],
            "MOST": [(), words(" most ") + (("NUMBER", 0),)]}[name]


def starts():
    """For each command what is to come."""
    found = []
    for shape in SHAPES:
        ahead = words(shape[0])
        for kind in shape[1:]:
            ahead += (() if kind == "ALONE" else words(" ")) + ((kind, 0),)
        found.append(ahead)
    return found


def unfolded(ways):
    """The ways with a sign in front, and () if one may end here."""
    left, found = list(ways), set()
    while left:
        way = left.pop()
        if way and way[0][0] != "one of":
            left += [option + way[1:] for option in options(way[0])]
        else:
            found.add(way)
    return found


def first_wrong(command):
    """The index of the first sign at which no command goes on, None of a command."""
    ways = unfolded(starts())
    for at, sign in enumerate(command):
        ways = unfolded(way[1:] for way in ways if way and sign in way[0][1])
        if not ways:
            return at
    return None if () in ways else len(command)


def value_by_chance(chance):
    return chance.choice((None, True, False, 0, -1, 7, 10 ** 30 - 1, 1 - 10 ** 30, "", "'", "a''b", "none", "x y"))


def text_by_chance(chance):
    return "".join(chance.choice("ab' ,)") for _ in range(chance.randrange(5)))


def names_by_chance(chance, least=1):
    return tuple(chance.choice(NAMES) for _ in range(chance.randrange(least, 4)))


def piece_by_chance(chance, kind):
    if kind == "NAME":
        return chance.choice(NAMES)
    if kind == "NUMBER":
        return chance.choice((0, 1, 9, 10, 12345678, 99999999))
    if kind in ("TEXT", "BOUND"):
        return None if kind == "BOUND" and chance.randrange(3) == 0 else text_by_chance(chance)
    if kind == "ROW":
        return tuple(value_by_chance(chance) for _ in range(chance.randrange(4)))
    if kind == "COLUMNS":
        return names_by_chance(chance)
    if kind == "ALONE":
        return chance.randrange(2) == 0
    if kind == "SCHEMA":
        columns = tuple((name, chance.choice(("int", "text", "truth")), chance.randrange(2) == 0)
                        for name in names_by_chance(chance))
        checks = tuple(condition_by_chance(chance, NAMES, 3) for _ in range(chance.randrange(3)))
        return (chance.choice(NAMES), columns, names_by_chance(chance), (), checks)
    condition = condition_by_chance(chance, NAMES, 4) if chance.randrange(2) else None
    columns = names_by_chance(chance, 0) if chance.randrange(2) else None
    order = tuple((name, chance.randrange(2) == 0) for name in names_by_chance(chance, 0))
    return (chance.choice(NAMES), condition, columns, order, chance.choice((None, 0, 5, 99999999)))


def pieces_by_chance(chance):
    shape = chance.choice(SHAPES)
    return (shape[0],) + tuple(piece_by_chance(chance, kind) for kind in shape[1:])


def listed(members):
    return "( " + " , ".join(members) + " )" if members else "( )"


def value_words(value):
    if isinstance(value, str):
        return "'" + "''".join(value.split("'")) + "'"
    return {None: "none", True: "true", False: "false"}[value] if value in (None, True, False) and type(
        value) is not int else str(value)


def condition_words(condition):
    return " ".join([condition[0]] + [condition_words(part) if isinstance(part, tuple) else
                                      part if at == 0 else value_words(part)
                                      for at, part in enumerate(condition[1:])])


def piece_words(kind, piece):
    if kind in ("NAME", "NUMBER"):
        return str(piece)
    if kind in ("TEXT", "BOUND"):
        return value_words(piece)
    if kind == "ROW":
        return listed([value_words(value) for value in piece])
    if kind == "COLUMNS":
        return listed(piece)
    if kind == "ALONE":
        return "alone" if piece else ""
    if kind == "SCHEMA":
        columns = listed([" ".join([name, told] + ["free"] * free) for name, told, free in piece[1]])
        return " ".join([piece[0], columns, "key", listed(piece[2])]
                        + ["check " + condition_words(check) for check in piece[4]])
    found = [piece[0]]
    found += [] if piece[1] is None else ["where", condition_words(piece[1])]
    found += [] if piece[2] is None else ["give", listed(piece[2])]
    found += ["order", listed([name + " down" * down for name, down in piece[3]])] if piece[3] else []
    return " ".join(found + ([] if piece[4] is None else ["most", str(piece[4])]))


def plain_command(pieces):
    """The command that tells these pieces."""
    shape = [shape for shape in SHAPES if shape[0] == pieces[0]][0]
    found = [pieces[0]] + [piece_words(kind, piece) for kind, piece in zip(shape[1:], pieces[1:])]
    return " ".join(word for word in found if word)
