"""The records of a store's log: commits, marks alone, and windows."""

from heldpasts.texts import is_text, number_at


def is_changes(value):
    """Whether a value is changes: an ascending tuple of (key, value or None), keys unlike."""
    if type(value) is not tuple or not all([is_change(change) for change in value]):
        return False
    keys = [key for key, _ in value]
    return all([one < other for one, other in zip(keys, keys[1:])])


def is_change(value):
    if type(value) is not tuple or len(value) != 2:
        return False
    return is_text(value[0]) and (value[1] is None or is_text(value[1]))


def is_entries(value):
    """Whether a value is entries: an ascending tuple of (key, value), keys unlike."""
    return is_changes(value) and all([text is not None for _, text in value])


def change_text(change):
    """The text of one change or mark in a record."""
    key, value = change
    if value is None:
        return f"-{len(key):04d}{key}"
    return f"+{len(key):04d}{key}{len(value):04d}{value}"


def deed_text(kind, changes, marks):
    """The record of a commit (C) or of marks alone (M)."""
    return kind + f"{len(changes):04d}" + "".join([change_text(change) for change in changes + marks])


def window_text(least):
    """The record of a window from this past on."""
    return f"W{least:08d}"


def record_told(text):
    """(kind, changes, marks) or ("W", least) of a record, None of another text."""
    if not is_text(text):
        return None
    if text[:1] == "W":
        least = number_at(text, 1, 8)
        return None if least is None or len(text) != 9 else ("W", least)
    if text[:1] == "C" or text[:1] == "M":
        return deed_told(text)
    return None


def deed_told(text):
    many = number_at(text, 1, 4)
    found = changes_told(text, 5)
    if many is None or found is None or many > len(found) or text[0] == "M" and many > 0:
        return None
    changes, marks = found[:many], found[many:]
    if not is_changes(changes) or not is_changes(marks):
        return None
    return (text[0], changes, marks)


def changes_told(text, at):
    """The tuple of the changes and marks, in any sequence, from an index to the text's end, or None."""
    found = []
    while at < len(text):
        told = change_from(text, at)
        if told is None:
            return None
        change, at = told
        found.append(change)
    return tuple(found)


def change_from(text, at):
    """The change that stands at an index, and the index behind it, or None."""
    key, end = part_from(text, at + 1)
    if key is None:
        return None
    if text[at] == "-":
        return ((key, None), end)
    value, end = part_from(text, end)
    if text[at] != "+" or value is None:
        return None
    return ((key, value), end)


def part_from(text, at):
    """The part behind its length in four digits, and the index behind it; None in its place if there is none."""
    size = number_at(text, at, 4)
    if size is None or at + 4 + size > len(text):
        return (None, at)
    end = at + 4 + size
    return (text[at + 4:end], end)
