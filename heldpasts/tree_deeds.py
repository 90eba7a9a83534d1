"""Deeds that lead from one sound tree to another one; the elder one stays as it was."""

from heldpasts.tree import kid_place, node_of

MOST = 4


def with_entry(pages, tree, key, value):
    """The tree with this entry, in the place of one with its key."""
    if tree is None:
        return ("leaf", ((key, value),))
    marks, nodes = put_below(pages, tree, key, value)
    if len(nodes) == 1:
        return nodes[0]
    return ("inner", marks, nodes)


def put_below(pages, kid, key, value):
    """The one or two nodes in the place of a kid, and the marks between them."""
    node = node_of(pages, kid)
    if node[0] == "leaf":
        ahead = tuple([entry for entry in node[1] if entry[0] < key])
        behind = tuple([entry for entry in node[1] if entry[0] > key])
        return parted(("leaf", ahead + ((key, value),) + behind))
    place = kid_place(node[1], key)
    marks, nodes = put_below(pages, node[2][place], key, value)
    return parted(with_kids(node, place, 1, marks, nodes))


def parted(node):
    """(marks, nodes): the node alone, or, if it has five entries or kids, its two parts."""
    if size_of(node) <= MOST:
        return ((), (node,))
    if node[0] == "leaf":
        entries = node[1]
        return ((entries[2][0],), (("leaf", entries[:2]), ("leaf", entries[2:])))
    marks, kids = node[1], node[2]
    return ((marks[1],), (("inner", marks[:1], kids[:2]), ("inner", marks[2:], kids[2:])))


def size_of(node):
    """How many entries or kids a node has."""
    return len(node[-1])


def with_kids(node, place, many, marks, kids):
    """An inner node with other kids, and marks between them, in the place of so many."""
    own_marks, own_kids = node[1], node[2]
    new_marks = own_marks[:place] + marks + own_marks[place + many - 1:]
    return ("inner", new_marks, own_kids[:place] + kids + own_kids[place + many:])


def without_key(pages, tree, key):
    """The tree without this key, the tree itself if the key is not there."""
    if tree is None:
        return None
    node = taken_below(pages, tree, key)
    if node is None:
        return tree
    if size_of(node) == 0:
        return None
    if node[0] == "inner" and size_of(node) == 1:
        return node[2][0]
    return node


def taken_below(pages, kid, key):
    """The node in the place of a kid, perhaps with too little in it; None if the key is not there."""
    node = node_of(pages, kid)
    if node[0] == "leaf":
        entries = tuple([entry for entry in node[1] if entry[0] != key])
        return None if len(entries) == len(node[1]) else ("leaf", entries)
    place = kid_place(node[1], key)
    below = taken_below(pages, node[2][place], key)
    if below is None:
        return None
    if size_of(below) > 1:
        return with_kids(node, place, 1, (), (below,))
    return with_joined(pages, node, place, below)


def with_joined(pages, node, place, below):
    """An inner node whose kid at a place, too small, is laid together with its neighbour."""
    marks, kids = node[1], node[2]
    first = max(place - 1, 0)
    if place == 0:
        one, other = below, node_of(pages, kids[1])
    else:
        one, other = node_of(pages, kids[first]), below
    new_marks, nodes = parted(laid_together(one, marks[first], other))
    return with_kids(node, first, 2, new_marks, nodes)


def laid_together(one, mark, other):
    """One node of two neighbours and the mark between them."""
    if one[0] == "leaf":
        return ("leaf", one[1] + other[1])
    return ("inner", one[1] + (mark,) + other[1], one[2] + other[2])


def bulk(entries):
    """The tree of an ascending tuple of entries, its nodes as full as may be."""
    if not entries:
        return None
    # Beside each node goes the first key below it: the mark, if it is not the first kid.
    level = [(part[0][0], ("leaf", part)) for part in fours(entries)]
    while len(level) > 1:
        level = [inner_over(part) for part in fours(level)]
    return level[0][1]


def fours(members):
    """The parts of four of a list or tuple, the last one of what is left, but never of one behind others."""
    ends = list(range(MOST, len(members), MOST)) + [len(members)]
    if len(ends) > 1 and ends[-1] - ends[-2] == 1:
        ends[-2] = ends[-2] - 1
    return [members[start:end] for start, end in zip([0] + ends[:-1], ends)]


def inner_over(part):
    """The first key below some nodes, and the inner node above them."""
    marks = tuple([key for key, _ in part[1:]])
    kids = tuple([node for _, node in part])
    return (part[0][0], ("inner", marks, kids))
