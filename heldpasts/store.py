"""The durable store: commits in a log, laid into a tree of pages when the log is full."""

from heldpasts.checks import check_changes, check_stretch, check_text, is_number
from heldpasts.errors import InvalidNumber
from heldpasts.layout import check_changes_room, check_marks_room
from heldpasts.log import pieces_of
from heldpasts.meaning import opened_log, opened_pages, root_of, told_pasts
from heldpasts.pasts import value_in
from heldpasts.records import deed_text, window_text
from heldpasts.tree import entries_of
from heldpasts.tree_deeds import bulk, with_entry, without_key
from heldpasts.tree_pages import nodes_in, reached, stored


class Store:
    """An opening of the store on a disk; it writes nothing."""

    def __init__(self, disk):
        self.disk = disk
        self.pages = opened_pages(disk)
        self.log = opened_log(self.pages)
        self.pasts = told_pasts(self.pages, self.log)
        self.number = self.pasts.number
        self.least = self.pasts.least
        self.room = self.log.room

    def marks(self):
        """The ascending tuple of the marks."""
        return self.pasts.marks()

    def value_at(self, key, number):
        """The value of a key in the past of a number, None without one."""
        check_text(key)
        self.check_number(number)
        return value_in(self.pasts.versions_of(key), number)

    def entries(self, low, high, number):
        """The ascending list of the entries of a stretch in the past of a number."""
        check_stretch(low, high)
        self.check_number(number)
        return self.pasts.entries(low, high, number)

    def versions_of(self, key):
        """The tuple of the versions of a key that a past from least on sees."""
        check_text(key)
        return self.pasts.versions_of(key)

    def newest(self, key):
        """The number of the last of these versions, 0 without one."""
        check_text(key)
        return self.pasts.newest(key)

    def changed_behind(self, low, high, number):
        """The ascending list of the keys of a stretch with a version of a greater number."""
        check_stretch(low, high)
        self.check_number(number)
        return [key for key in self.pasts.keys_in(low, high) if self.pasts.newest(key) > number]

    def check_number(self, number):
        """The number is that of a past that can be read."""
        if not is_number(number, self.least, self.number):
            raise InvalidNumber("there is no past of this number that can be read")

    def meaning(self):
        """What meaning_of tells once all is synced."""
        return self.pasts.meaning()

    def add(self, changes, marks=(), commit=True):
        """Appends a commit, or marks alone, without a sync: the number behind it."""
        check_changes(changes)
        check_changes(marks)
        check_changes_room(changes, self.disk.signs)
        check_marks_room(marks, self.disk.signs)
        self.write_record(deed_text("C", changes, marks) if commit else deed_text("M", (), marks))
        if commit:
            self.pasts.lay_commit(changes)
        self.pasts.lay_marks(marks)
        self.number = self.pasts.number
        return self.number

    def write_record(self, record):
        """Appends a record to the log, behind a checkpoint if there is too little room."""
        if pieces_of(record, self.disk.signs) > self.room:
            self.checkpoint()
        self.log.append(record)
        self.room = self.log.room

    def sync(self):
        """Makes all that was added durable."""
        self.log.sync()

    def forget(self, least):
        """Makes the window begin at a past; those ahead of it can be read no more."""
        self.check_number(least)
        self.write_record(window_text(least))
        self.log.sync()
        self.pasts.forget(least)
        self.least = least

    def checkpoint(self):
        """Lays all that the log tells into the tree, and turns to a log without records."""
        page = stored(self.pages, self.newer_tree())
        age = self.pages.head[1] + 1
        self.pages.turn_to(page, age, self.number, self.least)
        self.pages.keep(reached(self.pages, page))
        self.log = opened_log(self.pages)
        self.room = self.log.room

    def newer_tree(self):
        """A sound tree of all that is told now."""
        entries = self.pasts.tree_entries()
        tree = bulk(entries)
        if tree is None or nodes_in(tree) <= len(self.pages.spare()):
            return tree
        # A tree made anew has the fewest nodes; but where the pages are few, one that shares the elder's may fit.
        return led_to(self.pages, root_of(self.pages), entries)


def led_to(pages, tree, entries):
    """A tree led by single deeds to a map of just these entries."""
    elder = dict(entries_of(pages, tree, None, None))
    newer = dict(entries)
    led = tree
    for key in elder:
        if key not in newer:
            led = without_key(pages, led, key)
    for key, value in entries:
        if elder.get(key) != value:
            led = with_entry(pages, led, key, value)
    return led
