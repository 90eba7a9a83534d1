"""The nodes of a tree, their texts, and what a sound tree tells of its map.

A tree is None, or a kid: a page (an integer) or a node, ("leaf", entries) or ("inner", marks, kids).
"""

from heldpasts.texts import is_text, number_at


def entry_room(signs):
    """How many signs a key and its value may have together."""
    return (signs - 1) // 4 - 6


def node_text(node):
    """The text of a node whose kids are pages."""
    if node[0] == "leaf":
        return "L" + "".join([f"{len(key):03d}{len(value):03d}{key}{value}" for key, value in node[1]])
    marks, kids = node[1], node[2]
    pages = "".join([f"{kid:04d}" for kid in kids])
    return "I" + str(len(kids)) + pages + "".join([f"{len(mark):03d}{mark}" for mark in marks])


def node_told(text):
    """The node that has this text, or None."""
    if not is_text(text):
        return None
    if text[:1] == "L":
        return leaf_told(text)
    if text[:1] == "I":
        return inner_told(text)
    return None


def leaf_told(text):
    entries = []
    at = 1
    while at < len(text):
        key_size, value_size = number_at(text, at, 3), number_at(text, at + 3, 3)
        if key_size is None or value_size is None:
            return None
        start = at + 6
        middle = start + key_size
        at = middle + value_size
        if at > len(text):
            return None
        entries.append((text[start:middle], text[middle:at]))
    return ("leaf", tuple(entries))


def inner_told(text):
    many = number_at(text, 1, 1)
    if many is None or many == 0:
        return None
    kids = [number_at(text, 2 + 4 * place, 4) for place in range(many)]
    at = 2 + 4 * many
    marks = []
    for _ in range(many - 1):
        size = number_at(text, at, 3)
        if size is None:
            return None
        start = at + 3
        at = start + size
        marks.append(text[start:at])
    # A mark that ends too early leaves the index behind the text.
    if None in kids or at != len(text):
        return None
    return ("inner", tuple(marks), tuple(kids))


def node_of(pages, kid):
    """The node that a kid is, or that its page bears."""
    if type(kid) is int:
        return node_told(pages.read(kid))
    return kid


def kid_place(marks, key):
    """The place of the kid below which a key belongs."""
    return len([mark for mark in marks if mark <= key])


def value_at(pages, tree, key):
    """The value of a key, None without one."""
    if tree is None:
        return None
    node = node_of(pages, tree)
    while node[0] == "inner":
        node = node_of(pages, node[2][kid_place(node[1], key)])
    for own_key, value in node[1]:
        if own_key == key:
            return value
    return None


def last_to(pages, tree, key):
    """The entry with the greatest key not above a key, or None."""
    if tree is None:
        return None
    node = node_of(pages, tree)
    if node[0] == "leaf":
        found = [entry for entry in node[1] if entry[0] <= key]
        return found[-1] if found else None
    place = kid_place(node[1], key)
    last = last_to(pages, node[2][place], key)
    # A mark may be less than all keys behind it: then the kid ahead has the entry.
    if last is None and place > 0:
        last = last_to(pages, node[2][place - 1], key)
    return last


def entries_of(pages, tree, low, high):
    """The ascending list of the entries with low <= key < high; None is no bound."""
    if tree is None:
        return []
    node = node_of(pages, tree)
    if node[0] == "leaf":
        return [entry for entry in node[1] if lies_in(entry[0], low, high)]
    marks, kids = node[1], node[2]
    first = 0 if low is None else kid_place(marks, low)
    end = len(kids) if high is None else 1 + len([mark for mark in marks if mark < high])
    entries = []
    for kid in kids[first:end]:
        entries.extend(entries_of(pages, kid, low, high))
    return entries


def lies_in(key, low, high):
    """Whether a key lies in a stretch."""
    return (low is None or low <= key) and (high is None or key < high)


def depth(pages, tree):
    """The number of nodes of a way to a leaf, 0 of None."""
    many = 0
    kid = tree
    while kid is not None:
        node = node_of(pages, kid)
        many += 1
        kid = node[2][0] if node[0] == "inner" else None
    return many
