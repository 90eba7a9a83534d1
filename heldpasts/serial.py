"""Which commits lead which, so that an order of them is right exactly if none stands behind one that it leads.

A node is a tuple (number, snapshot, notes, keys) of a commit; nodes is a dictionary from numbers to nodes.
"""

from heldpasts.errors import InvalidNumber
from heldpasts.rings import first_order, first_ring
from heldpasts.tree import lies_in


def leads(one, other):
    """Whether one of two nodes is to stand ahead of the other one."""
    return wrote_ahead(one, other) or was_read(one, other) or overlooks(one, other)


def wrote_ahead(one, other):
    """Whether both changed a key, one ahead of the other one."""
    return one[0] < other[0] and len(set(one[3]) & set(other[3])) > 0


def was_read(one, other):
    """Whether a note of the other one has a key that one changed up to the other one's snapshot."""
    return one[0] <= other[1] and have_any(other[2], one[3])


def overlooks(one, other):
    """Whether a note of one has a key that the other one changed behind one's snapshot."""
    return other[0] > one[1] and have_any(one[2], other[3])


def have_any(notes, keys):
    """Whether some note has one of the keys."""
    if len(set([note[1] for note in notes if note[0] == "value"]) & set(keys)) > 0:
        return True
    stretches = [note[1:3] for note in notes if note[0] == "entries"]
    if not stretches:
        return False
    ascending = sorted(keys)
    for low, high in stretches:
        place = first_from(ascending, low)
        if place < len(ascending) and lies_in(ascending[place], low, high):
            return True
    return False


def first_from(keys, low):
    """The place of the first of some ascending keys that is not less than a bound."""
    place = 0
    end = 0 if low is None else len(keys)
    while place < end:
        middle = (place + end) // 2
        if keys[middle] < low:
            place = middle + 1
        else:
            end = middle
    return place


def ring_through(nodes, number):
    """The first of the shortest rings that begin with a number, None if there is none."""
    if type(number) is not int:
        raise InvalidNumber("a ring goes through the number of a commit")
    return first_ring(sorted(nodes), number, lambda one, other: leads(nodes[one], nodes[other]))


def order_of(nodes):
    """The tuple of all numbers, each the least that none of those left leads; None by a ring."""
    return first_order(sorted(nodes), lambda one, other: leads(nodes[one], nodes[other]))


def pivots(nodes):
    """The ascending list of (a, b, c), each overlooking the next one, c less than b and not above a."""
    found = {number: [] for number in nodes}
    for number in nodes:
        for other in nodes:
            if number != other and overlooks(nodes[number], nodes[other]):
                found[number].append(other)
    return sorted([(one, two, three) for one in nodes for two in found[one] for three in found[two]
                   if three < two and three <= one])


def kept_nodes(nodes, snapshots):
    """The nodes that may still come into a ring with commits of sessions that read these snapshots, or later ones."""
    left = {number: nodes[number] for number in sorted(nodes)}
    may_go = [number for number in left if all([number <= snapshot for snapshot in snapshots])]
    leaders = {number: [other for other in left if other != number and leads(nodes[other], nodes[number])]
               for number in may_go}
    many = len(left) + 1
    while len(left) < many:
        many = len(left)
        for number in may_go:
            if number in left and not any([other in left for other in leaders[number]]):
                del left[number]
    return left
