"""Trees for the tests: made by chance, laid on pages in part, and changed by words read once more."""

from bisect import bisect_right

from heldpasts.disk import Disk
from heldpasts.pages import Pages, fresh_image
from heldpasts.tree import node_of, node_text
from heldpasts.tree_deeds import with_entry, without_key


def fresh_pages(pages=100, signs=200, steps=None):
    return Pages(Disk(fresh_image(pages, 2, signs), signs, steps))


def leaf(*keys):
    """A leaf with these keys, each with itself in capitals as its value."""
    return ("leaf", tuple((key, key.upper()) for key in keys))


def keys_of(chance, many):
    return ["k" + str(chance.randrange(many)) for _ in range(many)]


def tree_by_chance(pages, chance, many):
    """A sound tree, none of it on pages, and the plain map that it has."""
    tree, plain = None, {}
    for key in keys_of(chance, many):
        if chance.randrange(3):
            tree, plain = with_entry(pages, tree, key, key + "!"), {**plain, key: key + "!"}
        else:
            tree = without_key(pages, tree, key)
            plain.pop(key, None)
    return tree, plain


def on_pages(pages, tree, chance=None):
    """The tree with all its nodes on pages, or some of them by chance; the pages are then kept."""
    if tree is None or isinstance(tree, int):
        return tree
    if tree[0] == "inner":
        tree = ("inner", tree[1], tuple(on_pages(pages, kid, chance) for kid in tree[2]))
        if not all(isinstance(kid, int) for kid in tree[2]):
            return tree
    if chance is not None and chance.randrange(2):
        return tree
    page = chance.choice(pages.spare()) if chance is not None else pages.spare()[-1]
    pages.place(page, node_text(tree))
    pages.keep(tuple(sorted(pages.kept + (page,))))
    return page


def whole(pages, tree):
    """The tree with nodes in the place of all its pages."""
    node = None if tree is None else node_of(pages, tree)
    if node is None or node[0] == "leaf":
        return node
    return ("inner", node[1], tuple(whole(pages, kid) for kid in node[2]))


def pages_in(tree, pages):
    """The pages of a tree in the sequence in which they stand in it, each as often as it does."""
    if tree is None:
        return []
    found = [tree] if isinstance(tree, int) else []
    node = node_of(pages, tree)
    return found + [page for kid in (node[2] if node[0] == "inner" else ()) for page in pages_in(kid, pages)]


def thawed(node):
    if node[0] == "leaf":
        return ["leaf", list(node[1])]
    return ["inner", list(node[1]), [thawed(kid) for kid in node[2]]]


def frozen(node):
    if node[0] == "leaf":
        return ("leaf", tuple(node[1]))
    return ("inner", tuple(node[1]), tuple(frozen(kid) for kid in node[2]))


def way_to(top, key):
    """The leaf of a key, and the way to it as a list of (inner node, place)."""
    way, node = [], top
    while node[0] == "inner":
        place = bisect_right(node[1], key)
        way.append((node, place))
        node = node[2][place]
    return node, way


def part(node):
    """(first part, mark, second part) of a node with five."""
    if node[0] == "leaf":
        return ["leaf", node[1][:2]], node[1][2][0], ["leaf", node[1][2:]]
    return ["inner", node[1][:1], node[2][:2]], node[1][1], ["inner", node[1][2:], node[2][2:]]


def put_by_words(tree, key, value):
    """What with_entry does to a tree without pages, gone from the leaf upwards."""
    if tree is None:
        return ("leaf", ((key, value),))
    top = thawed(tree)
    node, way = way_to(top, key)
    node[1] = sorted({**dict(node[1]), key: value}.items())
    while len(node[-1]) == 5:
        first, mark, second = part(node)
        if not way:
            top = ["inner", [mark], [first, second]]
            break
        node, place = way.pop()
        node[2][place:place + 1] = [first, second]
        node[1].insert(place, mark)
    return frozen(top)


def take_by_words(tree, key):
    """What without_key does to a tree without pages, gone from the leaf upwards."""
    top = thawed(tree)
    node, way = way_to(top, key)
    node[1] = [entry for entry in node[1] if entry[0] != key]
    while len(node[-1]) == 1 and way:
        over, place = way.pop()
        first = max(place - 1, 0)
        one, other = over[2][first:first + 2]
        mark = over[1].pop(first)
        if node[0] == "leaf":
            joined = ["leaf", one[1] + other[1]]
        else:
            joined = ["inner", one[1] + [mark] + other[1], one[2] + other[2]]
        over[2][first:first + 2] = [joined]
        if len(joined[-1]) == 5:
            first_part, mark, second_part = part(joined)
            over[2][first:first + 1] = [first_part, second_part]
            over[1].insert(first, mark)
        node = over
    if top[0] == "inner" and len(top[2]) == 1:
        top = top[2][0]
    return None if top == ["leaf", []] else frozen(top)
