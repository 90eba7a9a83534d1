"""Nodes for the tests: made by chance, and read once more from the words of the document."""

from itertools import permutations

KEYS = "abcd"


def note_has(note, key):
    if note[0] == "value":
        return note[1] == key
    return (note[1] is None or note[1] <= key) and (note[2] is None or key < note[2])


def have(notes, keys):
    return any(note_has(note, key) for note in notes for key in keys)


def lead_words(one, other):
    """The words w, r and o by which one leads the other."""
    words = ""
    if set(one[3]) & set(other[3]) and one[0] < other[0]:
        words += "w"
    if have(other[2], one[3]) and one[0] <= other[1]:
        words += "r"
    if have(one[2], other[3]) and other[0] > one[1]:
        words += "o"
    return words


def note_by_chance(chance):
    if chance.randrange(3):
        return ("value", chance.choice(KEYS), None)
    bounds = [chance.choice(("a", "b", "bb", "c", "d", "e", None)) for _ in range(2)]
    return ("entries", bounds[0], bounds[1], ())


def nodes_by_chance(chance, many, reads=3, apart=False):
    """Nodes by chance; apart: of two that change one key the later one's snapshot has the elder one."""
    nodes, newest = {}, {}
    number = 0
    for _ in range(many):
        number += chance.randrange(1, 3)
        keys = tuple(sorted(chance.sample(KEYS, chance.randrange(3))))
        snapshot = chance.randrange(max(0, number - 4), number)
        if apart:
            snapshot = max([snapshot] + [newest.get(key, 0) for key in keys])
        notes = tuple(note_by_chance(chance) for _ in range(chance.randrange(reads)))
        nodes[number] = (number, snapshot, notes, keys)
        newest.update((key, number) for key in keys)
    return nodes


def rings_from(nodes, number):
    """All rings that begin with a number, those with the fewest numbers first, then as tuples are ordered."""
    others = sorted(set(nodes) - {number})
    for size in range(1, len(others) + 1):
        for rest in permutations(others, size):
            ring = (number,) + rest
            if all(lead_words(nodes[one], nodes[other]) for one, other in zip(ring, rest + ring[:1])):
                yield ring


def changer(ahead, nodes, key):
    """The last one of some numbers that changed a key, 0 without one."""
    return ([0] + [number for number in ahead if key in nodes[number][3]])[-1]


def is_right(nodes, order):
    """Whether an order of the nodes is right by [20]."""
    for key in KEYS:
        if [number for number in order if key in nodes[number][3]] != \
                sorted(number for number in nodes if key in nodes[number][3]):
            return False
        for at, number in enumerate(order):
            if any(note_has(note, key) for note in nodes[number][2]):
                read = changer([other for other in sorted(nodes) if other <= nodes[number][1]], nodes, key)
                if changer(order[:at], nodes, key) != read:
                    return False
    return True


def keeps_leads(nodes, order):
    return not any(lead_words(nodes[order[later]], nodes[order[at]])
                   for later in range(len(order)) for at in range(later))


def right_orders(nodes):
    return [order for order in permutations(sorted(nodes)) if is_right(nodes, order)]
