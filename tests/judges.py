"""Histories for the tests: by chance and all small ones, and what is told of them, read from the document once more."""

from itertools import permutations

from tests.serials import note_has

KEYS = "ab"


def plain_past(entries, history, number):
    past = dict(entries)
    for commit in history[:number]:
        for key, value in commit[3]:
            past.pop(key, None)
            if value is not None:
                past[key] = value
    return tuple(sorted(past.items()))


def plain_given(past, note):
    if note[0] == "value":
        return note[2] == dict(past).get(note[1])
    return note[3] == tuple(entry for entry in past if note_has(note, entry[0]))


def keys_of(history, number):
    return [key for key, _ in history[number - 1][3]]


def noted(history, number, keys):
    """Whether a commit is serial and a note of it has one of the keys."""
    return history[number - 1][1] and any(note_has(note, key) for note in history[number - 1][2] for key in keys)


def plain_edges(history):
    found = set()
    numbers = range(1, len(history) + 1)
    for one in numbers:
        for other in numbers:
            if one < other and set(keys_of(history, one)) & set(keys_of(history, other)):
                found.add((one, other, "writes"))
            if one != other and noted(history, other, keys_of(history, one)) and one <= history[other - 1][0]:
                found.add((one, other, "reads"))
            if one != other and noted(history, one, keys_of(history, other)) and other > history[one - 1][0]:
                found.add((one, other, "misses"))
    return tuple(sorted(found))


def plain_rings(history):
    """All rings, those with the fewest numbers first, then as tuples are ordered."""
    pairs = {edge[:2] for edge in plain_edges(history)}
    return [ring for size in range(2, len(history) + 1) for ring in permutations(range(1, len(history) + 1), size)
            if all(pair in pairs for pair in zip(ring, ring[1:] + ring[:1]))]


def plain_pivots(history):
    missed = [edge[:2] for edge in plain_edges(history) if edge[2] == "misses"]
    return tuple(sorted((one, two, three) for one, two in missed for other, three in missed
                        if other == two and three < two and three <= one))


def sequences(history):
    return list(permutations(range(1, len(history) + 1)))


def plain_keeps(history, order):
    return all(order.index(one) < order.index(other) for one, other, _ in plain_edges(history))


def plain_changer(history, ahead, key):
    return ([0] + [number for number in ahead if key in keys_of(history, number)])[-1]


def plain_right(history, order):
    for key in {key for number in order for key in keys_of(history, number)}:
        writers = [number for number in order if key in keys_of(history, number)]
        if writers != sorted(writers):
            return False
        for at, number in enumerate(order):
            if noted(history, number, [key]):
                seen = plain_changer(history, range(1, history[number - 1][0] + 1), key)
                if plain_changer(history, order[:at], key) != seen:
                    return False
    return True


def plain_serial(entries, history, order):
    for at, number in enumerate(order):
        past = plain_past(entries, [history[other - 1] for other in order[:at]], at)
        if history[number - 1][1] and not all(plain_given(past, note) for note in history[number - 1][2]):
            return False
    whole = [history[other - 1] for other in order]
    return plain_past(entries, whole, len(order)) == plain_past(entries, history, len(order))


def plain_snapshot(entries, history):
    for snapshot, _, notes, _ in history:
        past = plain_past(entries, history, snapshot)
        if not all(plain_given(past, note) for note in notes):
            return False
    return all(one <= history[other - 1][0] for one in range(1, len(history)) for other in range(one + 1, len(history) + 1)
               if set(keys_of(history, one)) & set(keys_of(history, other)))


def changes_in(chance, keys=KEYS, goes=True):
    picked = sorted(key for key in keys if chance.randrange(2))
    return tuple((key, None if goes and chance.randrange(4) == 0 else str(chance.randrange(3))) for key in picked)


def note_in(chance, past, honest, keys=KEYS):
    """A note; an honest one is given by the past."""
    if chance.randrange(2):
        key = chance.choice(keys + "x")
        told = dict(past).get(key) if honest else chance.choice((None, "0", "1"))
        return ("value", key, told)
    low, high = (chance.choice((None, "a", "aa", "b", "c")) for _ in range(2))
    note = ("entries", low, high, ())
    inside = tuple(entry for entry in past if note_has(note, entry[0]))
    return note[:3] + (inside if honest or chance.randrange(2) else changes_in(chance, keys, False),)


def history_by_chance(chance, many, honest=True, keys=KEYS):
    """Entries and a history; of an honest one most are snapshot histories."""
    entries = tuple((key, "9") for key in keys if chance.randrange(2))
    history = ()
    for number in range(1, many + 1):
        snapshot = chance.randrange(max(0, number - 4), number)
        changes = changes_in(chance, keys)
        if honest:
            # Of two that change one key the later one's snapshot has the elder one.
            newest = [other for other in range(1, number) if set(keys_of(history, other)) & {key for key, _ in changes}]
            snapshot = max([snapshot] + newest)
        past = plain_past(entries, history, snapshot)
        notes = tuple(note_in(chance, past, honest, keys) for _ in range(chance.randrange(3)))
        history += ((snapshot, chance.randrange(4) > 0, notes, changes),)
    return entries, history
