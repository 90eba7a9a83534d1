"""Which commits lead which, so that an order of them is right exactly if none stands behind one that it leads.

A node is a tuple (number, snapshot, notes, keys) of a commit; nodes is a dictionary from numbers to nodes.
"""

from heapq import heappop, heappush

from heldpasts.errors import InvalidNumber
from heldpasts.tree import lies_in


def leads(one, other):
    """Whether one of two nodes is to stand ahead of the other one."""
    if one[0] < other[0] and len(set(one[3]) & set(other[3])) > 0:
        return True
    if one[0] <= other[1] and have_any(other[2], one[3]):
        return True
    return overlooks(one, other)


def overlooks(one, other):
    """Whether a note of one has a key that the other one changed behind one's snapshot."""
    return other[0] > one[1] and have_any(one[2], other[3])


def have_any(notes, keys):
    """Whether some note has one of the keys."""
    if len(set([note[1] for note in notes if note[0] == "value"]) & set(keys)) > 0:
        return True
    stretches = [note[1:3] for note in notes if note[0] == "entries"]
    if not stretches:
        return False
    ascending = sorted(keys)
    for low, high in stretches:
        place = first_from(ascending, low)
        if place < len(ascending) and lies_in(ascending[place], low, high):
            return True
    return False


def first_from(keys, low):
    """The place of the first of some ascending keys that is not less than a bound."""
    place = 0
    end = 0 if low is None else len(keys)
    while place < end:
        middle = (place + end) // 2
        if keys[middle] < low:
            place = middle + 1
        else:
            end = middle
    return place


def ring_through(nodes, number):
    """The first of the shortest rings that begin with a number, None if there is none."""
    if type(number) is not int:
        raise InvalidNumber("a ring goes through the number of a commit")
    met = {number: True}
    # Ways of one length, in their order: so the first one to meet a number is the first of the shortest to it.
    ways = [(number,)] if number in nodes else []
    while ways:
        for way in ways:
            if len(way) > 1 and leads(nodes[way[-1]], nodes[number]):
                return way
        further = []
        for way in ways:
            for other in sorted(nodes):
                if other not in met and leads(nodes[way[-1]], nodes[other]):
                    met[other] = True
                    further.append(way + (other,))
        ways = further
    return None


def order_of(nodes):
    """The tuple of all numbers, each the least that none of those left leads; None by a ring."""
    led = {number: [] for number in nodes}
    ahead = {number: 0 for number in nodes}
    for number in nodes:
        for other in nodes:
            if number != other and leads(nodes[number], nodes[other]):
                led[number].append(other)
                ahead[other] += 1
    free = [number for number in sorted(nodes) if ahead[number] == 0]
    order = []
    while free:
        number = heappop(free)
        order.append(number)
        for other in led[number]:
            ahead[other] -= 1
            if ahead[other] == 0:
                heappush(free, other)
    return tuple(order) if len(order) == len(nodes) else None


def pivots(nodes):
    """The ascending list of (a, b, c), each overlooking the next one, c less than b and not above a."""
    found = {number: [] for number in nodes}
    for number in nodes:
        for other in nodes:
            if number != other and overlooks(nodes[number], nodes[other]):
                found[number].append(other)
    return sorted([(one, two, three) for one in nodes for two in found[one] for three in found[two]
                   if three < two and three <= one])


def kept_nodes(nodes, snapshots):
    """The nodes that may still come into a ring with commits of sessions that read these snapshots, or later ones."""
    left = {number: nodes[number] for number in sorted(nodes)}
    may_go = [number for number in left if all([number <= snapshot for snapshot in snapshots])]
    leaders = {number: [other for other in left if other != number and leads(nodes[other], nodes[number])]
               for number in may_go}
    many = len(left) + 1
    while len(left) < many:
        many = len(left)
        for number in may_go:
            if number in left and not any([other in left for other in leaders[number]]):
                del left[number]
    return left
