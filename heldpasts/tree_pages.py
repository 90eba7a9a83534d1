"""A tree as a whole on its pages: whether it is sound, what pages it has, and how it gets onto them."""

from heldpasts.errors import NoStore, StoreFull
from heldpasts.tree import lies_in, node_of, node_text

LEAST = 2
MOST = 4


def is_sound(pages, tree):
    """Whether a tree whose pages bear nodes, none twice, is sound."""
    if tree is None:
        return True
    top = node_of(pages, tree)
    if top[0] == "leaf" and len(top[1]) == 1:
        return True
    level = [(top, None, None)]
    while all([node[0] == "inner" and LEAST <= len(node[2]) <= MOST for node, _, _ in level]):
        level = [below for node, low, high in level for below in kids_between(pages, node, low, high)]
    return are_leaves(level)


def kids_between(pages, node, low, high):
    """The nodes below an inner node, each with the marks ahead of it and behind it (None without one)."""
    marks, kids = node[1], node[2]
    lows = (low,) + marks
    highs = marks + (high,)
    return [(node_of(pages, kid), lows[place], highs[place]) for place, kid in enumerate(kids)]


def are_leaves(level):
    """Whether the nodes are leaves of a sound tree, each between its marks."""
    if not all([node[0] == "leaf" and LEAST <= len(node[1]) <= MOST for node, _, _ in level]):
        return False
    for node, low, high in level:
        first, last = node[1][0][0], node[1][-1][0]
        if not lies_in(first, low, high) or not lies_in(last, low, high):
            return False
    # As all keys ascend, the nearest marks of each leaf speak for those further up.
    keys = [key for node, _, _ in level for key, _ in node[1]]
    return all([one < other for one, other in zip(keys, keys[1:])])


def reached(pages, tree):
    """The lot of the pages of a tree; NoStore if one stands twice, is none or bears no node."""
    found = {}
    kids = [] if tree is None else [tree]
    while kids:
        kid = kids.pop()
        if type(kid) is int:
            if kid in found or not 0 <= kid < pages.head[5]:
                raise NoStore("a page of the tree is none, or stands in it twice")
            found[kid] = True
        node = node_of(pages, kid)
        if node is None:
            raise NoStore("a page of the tree bears no node")
        if node[0] == "inner":
            kids.extend(node[2])
    return tuple(sorted(found))


def stored(pages, tree):
    """Places the nodes of a tree on spare pages: the top's page, None of None."""
    if tree is None:
        return None
    spare = pages.spare()
    if nodes_in(tree) > len(spare):
        raise StoreFull("there are too few spare pages for the tree")
    page, _ = placed(pages, tree, spare)
    return page


def nodes_in(kid):
    """How many nodes of a kid are no pages."""
    if type(kid) is int:
        return 0
    if kid[0] == "leaf":
        return 1
    return 1 + sum([nodes_in(below) for below in kid[2]])


def placed(pages, kid, spare):
    """The page of a kid, behind all that is below it, and the spare pages that are left."""
    if type(kid) is int:
        return (kid, spare)
    node = kid
    left = spare
    if kid[0] == "inner":
        kids = []
        for below in kid[2]:
            page, left = placed(pages, below, left)
            kids.append(page)
        node = ("inner", kid[1], tuple(kids))
    pages.place(left[0], node_text(node))
    return (left[0], left[1:])
