"""Heads and pages: two blocks that tell in turn what stands, and blocks that bear nodes."""

from heldpasts.checks import check_block, check_count, check_signs
from heldpasts.errors import NoStore, PageKept
from heldpasts.texts import is_text, number_at

HEAD_SIZES = (6, 6, 4, 8, 8, 4)
HEADS = 2
MOST_PAGES = 150
MOST_BLOCKS = 200


def head_text(head):
    """The block of a head (turn, age, root, number, least, pages)."""
    return "H" + "".join([str(member).zfill(size) for member, size in zip(head, HEAD_SIZES)])


def head_told(block):
    """The head that a block bears, or None."""
    if not is_text(block) or block[:1] != "H" or len(block) != 1 + sum(HEAD_SIZES):
        return None
    members = []
    at = 1
    for size in HEAD_SIZES:
        members.append(number_at(block, at, size))
        at += size
    if None in members:
        return None
    return tuple(members)


def fresh_image(pages, log_blocks, signs):
    """The image of an empty store with so many pages and blocks for its log."""
    check_count(pages, 1, MOST_PAGES)
    check_count(log_blocks, 1, MOST_BLOCKS - HEADS - pages)
    check_signs(signs)
    return (head_text((0, 0, 0, 0, 0, pages)),) + ("",) * (1 + pages + log_blocks)


def stands_on(head, blocks):
    """Whether a head is that of a store on a disk of so many blocks."""
    root, number, least, pages = head[2:]
    return pages >= 1 and HEADS + pages + 1 <= blocks and root <= pages and least <= number


class Pages:
    """The pages of a disk under its newest head; those that are kept are not written."""

    def __init__(self, disk):
        heads = [head_told(disk.read(index)) for index in range(HEADS)]
        newest = max([head for head in heads if head is not None], default=None)
        if newest is None or not stands_on(newest, len(disk.image)):
            raise NoStore("the disk has no head of a store")
        self.disk = disk
        self.head = newest
        self.kept = ()

    def keep(self, lot):
        """From now on these pages are kept, and no others."""
        self.kept = lot

    def read(self, page):
        """The block of a page."""
        self.check_page(page)
        return self.disk.read(HEADS + page)

    def spare(self):
        """The ascending list of the pages that are not kept."""
        return [page for page in range(self.head[5]) if page not in self.kept]

    def place(self, page, block):
        """Writes a page that is not kept, without a flush."""
        self.check_page(page)
        check_block(block, self.disk.signs)
        if page in self.kept:
            raise PageKept("the page is kept")
        self.disk.write(HEADS + page, block)

    def turn_to(self, root, age, number, least):
        """Makes all pages durable, and only then a head with this root (a page or None)."""
        turn = self.head[0] + 1
        own_root = 0 if root is None else root + 1
        head = (turn, age, own_root, number, least, self.head[5])
        self.disk.flush()
        self.disk.write(turn % 2, head_text(head))
        self.disk.flush()
        self.head = head

    def check_page(self, page):
        check_count(page, 0, self.head[5] - 1)
