"""Letters that a leader tells of its commits and its pasts."""

from heldpasts.batches import standing
from heldpasts.checks import check_count, check_from, check_index, check_text, is_number
from heldpasts.errors import InvalidLetter, InvalidNumber, TooOld
from heldpasts.records import change_text, changes_told, is_changes, is_entries
from heldpasts.texts import number_at

MOST_NUMBER = 99999999
MOST_PIECES = 9999
MOST_SIGNS = 9999


def feed(store, number):
    """The ascending list of (number, changes) of the commits that stand and have greater numbers."""
    newest = newest_for(store, number)
    check_not_too_old(store, number)
    found = {other: [] for other in range(number + 1, newest + 1)}
    # A store keeps each version behind its least past; so together they tell what each commit changed.
    for key, versions in store.meaning()[2]:
        for other, value in versions:
            if other in found:
                found[other].append((key, value))
    return [(other, tuple(found[other])) for other in found]


def newest_for(store, number):
    """The number of the newest commit that stands; a number is one up to this."""
    newest = standing(store)
    if not is_number(number, 0, newest):
        raise InvalidNumber("there is no past of this number that stands")
    return newest


def check_not_too_old(store, number):
    if number < store.least:
        raise TooOld(store.least)


def copy_letter(store, number, pieces, index):
    """The letter of one of so many pieces of a past."""
    newest_for(store, number)
    check_count(pieces, 1, MOST_PIECES)
    check_index(index, pieces)
    check_not_too_old(store, number)
    return piece_letter(number, store.entries(None, None, number), pieces, index)


def copy_letters(store, number, size):
    """The letters of all pieces of a past, as few as have at most so many entries each."""
    newest_for(store, number)
    check_from(size, 1)
    check_not_too_old(store, number)
    return past_letters(number, store.entries(None, None, number), size)


def past_letters(number, entries, size):
    """The letters of all pieces of a past with these entries."""
    pieces = max(1, (len(entries) + size - 1) // size)
    return [piece_letter(number, entries, pieces, index) for index in range(pieces)]


def piece_letter(number, entries, pieces, index):
    many = len(entries)
    part = entries[index * many // pieces:(index + 1) * many // pieces]
    return ("piece", number, index, pieces, tuple(part))


def letters_from(store, number, size=None):
    """The letters that lead from a past to the newest one that stands."""
    newest = newest_for(store, number)
    if size is not None:
        check_from(size, 1)
    if number == newest:
        return [("none",)]
    if number < store.least and size is not None:
        return copy_letters(store, newest, size)
    return [("part", other, changes) for other, changes in feed(store, number)]


def is_letter(value):
    """Whether a value is a letter."""
    if type(value) is not tuple or not value:
        return False
    if value[0] == "none":
        return len(value) == 1
    if value[0] == "part":
        return len(value) == 3 and is_number(value[1], 1, MOST_NUMBER) and are_lines(value[2], is_changes(value[2]))
    if value[0] != "piece" or len(value) != 5:
        return False
    number, index, pieces, entries = value[1:]
    if not is_number(number, 0, MOST_NUMBER) or not is_number(pieces, 1, MOST_PIECES):
        return False
    return is_number(index, 0, pieces - 1) and are_lines(entries, is_entries(entries))


def are_lines(rows, are_right):
    """Whether right changes or entries have keys and values whose lengths four digits tell."""
    if not are_right:
        return False
    return all([len(text) <= MOST_SIGNS for row in rows for text in row if text is not None])


def check_letter(letter):
    if not is_letter(letter):
        raise InvalidLetter("this is no letter")


def letter_text(letter):
    """The text of a letter."""
    check_letter(letter)
    if letter[0] == "none":
        return "N"
    rows = "".join([change_text(row) for row in letter[-1]])
    if letter[0] == "part":
        return f"P{letter[1]:08d}{rows}"
    return f"S{letter[1]:08d}{letter[2]:04d}{letter[3]:04d}{rows}"


def letter_told(text):
    """The letter with this text."""
    check_text(text)
    letter = letter_from(text)
    check_letter(letter)
    return letter


def letter_from(text):
    """What is a letter if the text is that of one."""
    if text[:1] == "P":
        return ("part", number_at(text, 1, 8), changes_told(text, 9))
    if text[:1] == "S":
        return ("piece", number_at(text, 1, 8), number_at(text, 9, 4), number_at(text, 13, 4), changes_told(text, 17))
    return ("none",) if text == "N" else None
