"""Judges of histories: which sequences of commits are right, and why none is.

A history is a tuple of commits (snapshot, serial, notes, changes) in the sequence of their numbers 1, 2, ..
"""

from itertools import permutations

from heldpasts.checks import is_number
from heldpasts.errors import InvalidEntries, InvalidHistory, InvalidNumber, TooMany
from heldpasts.records import is_changes, is_entries
from heldpasts.rings import first_order, first_ring
from heldpasts.serial import have_any, overlooks, pivots, was_read, wrote_ahead
from heldpasts.texts import is_text
from heldpasts.tree import lies_in

MOST_ORDERED = 6


def is_note(value):
    """Whether a value is a note of what was read."""
    if type(value) is not tuple or not value:
        return False
    if value[0] == "value":
        return len(value) == 3 and is_text(value[1]) and is_bound(value[2])
    if value[0] != "entries" or len(value) != 4:
        return False
    return is_bound(value[1]) and is_bound(value[2]) and is_entries(value[3])


def is_bound(value):
    return value is None or is_text(value)


def is_history(value):
    """Whether a value is a history."""
    if type(value) is not tuple:
        return False
    return all([is_commit(number, commit) for number, commit in enumerate(value, start=1)])


def is_commit(number, value):
    """Whether a value is a commit that may have a number."""
    if type(value) is not tuple or len(value) != 4:
        return False
    snapshot, serial, notes, changes = value
    if not is_number(snapshot, 0, number - 1) or type(serial) is not bool or type(notes) is not tuple:
        return False
    return all([is_note(note) for note in notes]) and is_changes(changes)


def check_entries(entries):
    if not is_entries(entries):
        raise InvalidEntries("entries are an ascending tuple of unlike keys, each with a text")


def check_history(history):
    if not is_history(history):
        raise InvalidHistory("this is no history")


def is_given(entries, value):
    """Whether a value is a note that the entries give."""
    check_entries(entries)
    return is_note(value) and gives(dict(entries), value)


def gives(past, note):
    """Whether a past, a dictionary, holds just what a note tells."""
    if note[0] == "value":
        return past.get(note[1]) == note[2]
    inside = sorted([key for key in past if lies_in(key, note[1], note[2])])
    return tuple([(key, past[key]) for key in inside]) == note[3]


def past_of(entries, history, number):
    """The ascending tuple of the entries behind the first so many commits."""
    check_entries(entries)
    check_history(history)
    if not is_number(number, 0, len(history)):
        raise InvalidNumber("the history has no past of this number")
    return tuple(sorted(pasts_of(entries, history)[number].items()))


def pasts_of(entries, history):
    """The list of all pasts, as dictionaries."""
    pasts = [dict(entries)]
    for commit in history:
        pasts.append(past_behind(pasts[-1], commit))
    return pasts


def past_behind(past, commit):
    """The past, a new dictionary, behind one more commit."""
    laid = {key: value for key, value in past.items()}
    for key, value in commit[3]:
        laid[key] = value
    return {key: value for key, value in laid.items() if value is not None}


def is_snapshot_history(entries, history):
    """Whether all notes are of the snapshots, and no two commits overlap that change one key."""
    check_entries(entries)
    check_history(history)
    pasts = pasts_of(entries, history)
    if not all([gives(pasts[commit[0]], note) for commit in history for note in commit[2]]):
        return False
    nodes = nodes_of(history)
    return not any([wrote_ahead(nodes[one], nodes[other]) and one > nodes[other][1]
                    for one in nodes for other in nodes])


def nodes_of(history):
    """The nodes of the commits; only what serial ones read leads to anything."""
    nodes = {}
    for number, (snapshot, serial, notes, changes) in enumerate(history, start=1):
        nodes[number] = (number, snapshot, notes if serial else (), tuple([key for key, _ in changes]))
    return nodes


def edges_of(history):
    """The ascending tuple of all edges (one, other, word)."""
    check_history(history)
    return edges_between(nodes_of(history))


def edges_between(nodes):
    return tuple(sorted([(one, other, word) for one in nodes for other in nodes if one != other
                         for word in words_between(nodes[one], nodes[other])]))


def words_between(one, other):
    """The list of the words of the edges from one node to another."""
    found = [("writes", wrote_ahead(one, other)), ("reads", was_read(one, other)), ("misses", overlooks(one, other))]
    return [word for word, holds in found if holds]


def leads_of(history):
    """A dictionary with a tuple (one, other) for each edge."""
    return {edge[:2]: True for edge in edges_between(nodes_of(history))}


def is_ring(history, value):
    """Whether a value is a ring."""
    check_history(history)
    if type(value) is not tuple or len(value) < 2 or not are_unlike_numbers(history, value):
        return False
    leads = leads_of(history)
    return all([pair in leads for pair in zip(value, value[1:] + value[:1])])


def are_unlike_numbers(history, members):
    """Whether the members of a tuple are numbers of commits, each at most once."""
    if not all([is_number(member, 1, len(history)) for member in members]):
        return False
    return len(set(members)) == len(members)


def ring_of(history):
    """The least of the rings with the fewest numbers, None if there is no ring."""
    check_history(history)
    leads = leads_of(history)
    numbers = list(nodes_of(history))
    rings = [first_ring(numbers, number, lambda one, other: (one, other) in leads) for number in numbers]
    found = sorted([(len(ring), ring) for ring in rings if ring is not None])
    return found[0][1] if found else None


def pivots_of(history):
    """The ascending tuple of all (a, b, c), each missing what the next one changes, c less than b and not above a."""
    check_history(history)
    return tuple(pivots(nodes_of(history)))


def is_sequence(history, value):
    """Whether a value is a tuple of all numbers, each once."""
    if type(value) is not tuple or len(value) != len(history):
        return False
    return are_unlike_numbers(history, value)


def keeps_edges(history, value):
    """Whether a value is a sequence in which one stands ahead of other for each edge."""
    check_history(history)
    if not is_sequence(history, value):
        return False
    places = places_in(value)
    return all([places[one] < places[other] for one, other in leads_of(history)])


def places_in(sequence):
    """The dictionary from the numbers of a sequence to their places."""
    return {number: place for place, number in enumerate(sequence)}


def order_of(history):
    """The least sequence that keeps the edges, None if there is none."""
    check_history(history)
    leads = leads_of(history)
    return first_order(list(nodes_of(history)), lambda one, other: (one, other) in leads)


def is_right_order(history, value):
    """Whether a value is a right sequence."""
    check_history(history)
    return is_sequence(history, value) and meets_all(stories_of(history), value)


def stories_of(history):
    """Of each key that is changed a tuple (writers, readers), each unlike one once.

    writers are the numbers of the commits that change it, readers tuples (number, changer at the snapshot).
    """
    nodes = nodes_of(history)
    changed = {changed_key: True for node in nodes.values() for changed_key in node[3]}
    stories = {}
    for key in changed:
        writers = [number for number in nodes if key in nodes[number][3]]
        readers = [(number, last_to(writers, nodes[number][1])) for number in nodes
                   if have_any(nodes[number][2], (key,))]
        stories[tuple(writers), tuple(readers)] = True
    return list(stories)


def last_to(writers, number):
    """The last of some ascending numbers that is not above a number, 0 without one."""
    return max([writer for writer in writers if writer <= number], default=0)


def meets_all(stories, sequence):
    """Whether, in a sequence, each reader meets the changer of its snapshot, and writers keep their order."""
    places = places_in(sequence)
    for writers, readers in stories:
        if not all([places[one] < places[other] for one, other in zip(writers, writers[1:])]):
            return False
        for number, changer in readers:
            met = [writer for writer in writers if places[writer] < places[number]]
            if max(met, default=0) != changer:
                return False
    return True


def right_orders(history):
    """The ascending list of all right sequences."""
    check_history(history)
    if len(history) > MOST_ORDERED:
        raise TooMany(MOST_ORDERED)
    stories = stories_of(history)
    return [sequence for sequence in permutations(range(1, len(history) + 1)) if meets_all(stories, sequence)]


def is_serial_order(entries, history, value):
    """Whether a value is a sequence in which each serial commit reads what it noted, and which ends as all did."""
    check_entries(entries)
    check_history(history)
    if not is_sequence(history, value):
        return False
    past = dict(entries)
    for number in value:
        commit = history[number - 1]
        if commit[1] and not all([gives(past, note) for note in commit[2]]):
            return False
        past = past_behind(past, commit)
    return past == pasts_of(entries, history)[-1]


def told_history(versions):
    """The history of the commits of a Versions, its numbers counted from the past at its making."""
    opened = versions.opened
    return tuple([(max(0, snapshot - opened), serial, notes, changes)
                  for snapshot, serial, notes, changes in versions.history()])
