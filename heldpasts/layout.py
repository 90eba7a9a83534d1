"""How versions and marks lie in the tree of a store, and which of them have room there."""

from heldpasts.errors import TooLong
from heldpasts.keys import text_code
from heldpasts.texts import number_at
from heldpasts.tree import entry_room


def version_entry(key, number, value):
    """The entry that tells the value of a key, or that it went, behind a commit."""
    return (f"v{text_code(key)}{number:08d}", "-" if value is None else "+" + value)


def mark_entry(name, text):
    """The entry of a mark."""
    return ("m" + text_code(name), text)


def entry_told(entry):
    """("v", key, number, value) or ("m", name, text) of an entry, None of one that is neither."""
    code, told = entry
    # A text code ends at its only space.
    end = code.find(" ") + 1
    text = plain_text(code[1:end])
    if text is None:
        return None
    if code[0] == "m" and end == len(code):
        return ("m", text, told)
    number = number_at(code, end, 8)
    if code[0] != "v" or number is None or len(code) != end + 8:
        return None
    if told == "-":
        return ("v", text, number, None)
    if told[:1] == "+":
        return ("v", text, number, told[1:])
    return None


def plain_text(code):
    """The text with this text code, or None."""
    text = code[:-1].replace("!a", " ").replace("!b", "!")
    return text if text_code(text) == code else None


def check_changes_room(changes, signs):
    """Each change has room in the tree as a version."""
    for key, value in changes:
        check_room(key, version_entry(key, 0, value), signs)


def check_marks_room(marks, signs):
    """Each mark has room in the tree; one that goes needs it for its name alone."""
    for name, text in marks:
        check_room(name, mark_entry(name, "" if text is None else text), signs)


def check_room(text, entry, signs):
    if len(entry[0]) + len(entry[1]) > entry_room(signs):
        raise TooLong(text)
