"""What the blocks of a disk mean: a window of pasts, told by a tree of pages and the records behind it."""

from heldpasts.disk import Disk
from heldpasts.errors import NoStore
from heldpasts.layout import entry_told
from heldpasts.log import Log
from heldpasts.pages import HEADS, Pages
from heldpasts.pasts import Pasts
from heldpasts.records import record_told
from heldpasts.tree import entries_of
from heldpasts.tree_pages import is_sound, reached


def meaning_of(image, signs):
    """The tuple (least, number, keys, marks) of an image."""
    pages = opened_pages(Disk(image, signs))
    return told_pasts(pages, opened_log(pages)).meaning()


def root_of(pages):
    """The page of the head's root, None without one."""
    root = pages.head[2]
    return None if root == 0 else root - 1


def opened_pages(disk):
    """The Pages of a disk, those of its tree kept."""
    pages = Pages(disk)
    root = root_of(pages)
    pages.keep(reached(pages, root))
    if not is_sound(pages, root):
        raise NoStore("the tree is not sound")
    return pages


def opened_log(pages):
    """The log of the head's age, in all blocks behind the pages."""
    first = HEADS + pages.head[5]
    return Log(pages.disk, first, len(pages.disk.image) - first, pages.head[1])


def told_pasts(pages, log):
    """The pasts that a tree and the records of a log tell together."""
    pasts = Pasts(pages.head[4], pages.head[3])
    for entry in entries_of(pages, root_of(pages), None, None):
        lay_entry(pasts, entry)
    least = pasts.least
    for record in log.records:
        least = lay_record(pasts, least, record)
    pasts.forget(least)
    return pasts


def lay_entry(pasts, entry):
    told = entry_told(entry)
    if told is None:
        raise NoStore("an entry of the tree is neither a version nor a mark")
    if told[0] == "m":
        pasts.lay_marks((told[1:],))
        return
    key, number, value = told[1:]
    if not 1 <= number <= pasts.number:
        raise NoStore("a version of the tree is of no commit below the head")
    pasts.lay_version(key, number, value)


def lay_record(pasts, least, record):
    """Lays a record over the pasts; the least past that is in the window behind it."""
    told = record_told(record)
    if told is None:
        raise NoStore("a record of the log is none")
    if told[0] == "W":
        if not least <= told[1] <= pasts.number:
            raise NoStore("a window begins at no past")
        return told[1]
    kind, changes, marks = told
    if kind == "C":
        pasts.lay_commit(changes)
    pasts.lay_marks(marks)
    return least
