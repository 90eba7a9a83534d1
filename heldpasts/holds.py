"""Holds: what prepared sessions are to change, and what they guard, as it lies in the marks of the store."""

from heldpasts.checks import check_changes, check_signs, check_text
from heldpasts.conditions import check_name, is_name
from heldpasts.records import change_text, changes_told, is_changes, part_from
from heldpasts.texts import number_at
from heldpasts.tree import entry_room, lies_in

MOST_MARKS = 1000


def hold_text(hold):
    """The text of a hold (changes, guards)."""
    changes, guards = hold
    told = "".join([change_text(change) for change in changes])
    bounds = "".join([bound_text(bound) for guard in guards for bound in guard])
    return f"{len(told):06d}{told}{bounds}"


def bound_text(bound):
    if bound is None:
        return "-"
    return f"+{len(bound):04d}{bound}"


def hold_told(text):
    """The hold with this text, or None."""
    check_text(text)
    size = number_at(text, 0, 6)
    if size is None or 6 + size > len(text):
        return None
    changes = changes_told(text[:6 + size], 6)
    bounds = bounds_told(text, 6 + size)
    if not changes or not is_changes(changes) or bounds is None or len(bounds) % 2 == 1:
        return None
    return (changes, tuple([(bounds[at], bounds[at + 1]) for at in range(0, len(bounds), 2)]))


def bounds_told(text, at):
    """The tuple of the bounds from an index to the text's end, or None."""
    bounds = []
    while at < len(text):
        if text[at] == "-":
            bounds.append(None)
            at += 1
        else:
            bound, end = part_from(text, at + 1)
            if text[at] != "+" or bound is None:
                return None
            bounds.append(bound)
            at = end
    return tuple(bounds)


def mark_name(name, place):
    """The name of one of the marks in which the hold of a name lies."""
    return f".{name}{place:03d}"


def hold_marks(name, hold, signs):
    """The marks in which a hold lies."""
    check_name(name)
    check_signs(signs)
    text = hold_text(hold)
    # The code of a mark's name has six signs besides the name.
    size = entry_room(signs) - 6 - len(name)
    return tuple([(mark_name(name, place), text[start:start + size])
                  for place, start in enumerate(range(0, len(text), size))])


def holds_told(marks):
    """The dictionary from names to the holds that marks tell."""
    check_changes(marks)
    texts = {mark: text for mark, text in marks if text is not None}
    holds = {}
    for mark in texts:
        name = mark[1:-3]
        if is_name(name) and mark == mark_name(name, 0):
            hold = hold_told(joined_text(texts, name))
            if hold is not None:
                holds[name] = hold
    return holds


def joined_text(texts, name):
    """The texts of a name's marks one behind another, up to the first that is missing."""
    parts = []
    for place in range(MOST_MARKS):
        part = texts.get(mark_name(name, place))
        if part is None:
            break
        parts.append(part)
    return "".join(parts)


def held_names(holds, changes):
    """The lot of the names whose hold has a key of the changes."""
    check_changes(changes)
    keys = [key for key, _ in changes]
    return tuple(sorted([name for name in holds if has_any(holds[name], keys)]))


def has_any(hold, keys):
    """Whether a hold has one of the keys."""
    own = {key: True for key, _ in hold[0]}
    return any([key in own or lies_in_any(key, hold[1]) for key in keys])


def lies_in_any(key, stretches):
    return any([lies_in(key, low, high) for low, high in stretches])


def changing_names(holds, guards):
    """The lot of the names whose hold changes a key that lies in one of the guards."""
    return tuple(sorted([name for name in holds
                         if any([lies_in_any(key, guards) for key, _ in holds[name][0]])]))
