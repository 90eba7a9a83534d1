"""A log of records in an area of a disk; its opening writes nothing."""

from heldpasts.checks import check_age, check_area, check_image, check_record, check_signs
from heldpasts.errors import LogFull
from heldpasts.texts import is_text, number_at

PIECE_HEAD = 19


def piece_text(age, number, writer, more, part):
    """The block of a piece; more: whether its record goes on in the next block."""
    sign = "+" if more else "."
    return f"{age:06d}{number:06d}{writer:06d}{sign}{part}"


def piece_told(block):
    """The piece (age, number, writer, more, part) of a block, or None."""
    if not is_text(block) or len(block) < PIECE_HEAD or block[18] not in "+.":
        return None
    age, number, writer = number_at(block, 0, 6), number_at(block, 6, 6), number_at(block, 12, 6)
    if age is None or number is None or writer is None:
        return None
    return (age, number, writer, block[18] == "+", block[PIECE_HEAD:])


def pieces_of(record, signs):
    """How many blocks a record takes."""
    check_record(record)
    return len(parts_of(record, signs))


def parts_of(record, signs):
    full = signs - PIECE_HEAD
    # The empty record has one part, too, so that it stands in a block.
    return [record[start:start + full] for start in range(0, max(len(record), 1), full)]


def told_log(image, signs, first, count, age):
    """The tuple (records, number, writer): the run of an area, where it ends, and who writes next."""
    check_signs(signs)
    check_image(image, signs)
    check_area(first, count, len(image))
    check_age(age)
    return told_run(image[first:first + count], signs, age)


def told_run(blocks, signs, age):
    """What told_log tells of the blocks of an area."""
    pieces = [piece_of_age(block, age) for block in blocks]
    records = []
    number = 0
    writer = 0
    told = told_record(pieces, signs, number, writer)
    while told is not None:
        record, number, writer = told
        records.append(record)
        told = told_record(pieces, signs, number, writer)
    # Pieces that no record told has count, too: a new writer is to be above whatever was left there.
    newest = max([piece[2] for piece in pieces if piece is not None], default=-1)
    return (tuple(records), number, newest + 1)


def piece_of_age(block, age):
    piece = piece_told(block)
    if piece is not None and piece[0] == age:
        return piece
    return None


def told_record(pieces, signs, start, least):
    """(record, the place behind it, its writer) of the record at a place, None if none is told there."""
    parts = []
    writer = None
    for place in range(start, len(pieces)):
        if pieces[place] is None:
            return None
        number, own_writer, more, part = pieces[place][1:]
        if writer is None:
            writer = own_writer
        if number != place or own_writer != writer or writer < least:
            return None
        parts.append(part)
        if not more:
            return ("".join(parts), place + 1, writer)
        if len(part) != signs - PIECE_HEAD:
            return None
    return None


class Log:
    """An opening of the log of an area: its records, and the room that is left."""

    def __init__(self, disk, first, count, age):
        check_area(first, count, len(disk.image))
        check_age(age)
        blocks = [disk.read(first + place) for place in range(count)]
        records, number, writer = told_run(blocks, disk.signs, age)
        self.disk = disk
        self.first = first
        self.places = count
        self.age = age
        self.writer = writer
        self.records = records
        self.room = count - number

    def append(self, record):
        """Writes the pieces of a record behind the others, without a flush."""
        check_record(record)
        parts = parts_of(record, self.disk.signs)
        if len(parts) > self.room:
            raise LogFull("the log has too little room for this record")
        start = self.places - self.room
        for at, part in enumerate(parts):
            more = at + 1 < len(parts)
            piece = piece_text(self.age, start + at, self.writer, more, part)
            self.disk.write(self.first + start + at, piece)
        self.records = self.records + (record,)
        self.room = self.room - len(parts)

    def sync(self):
        """Makes all that was appended durable."""
        self.disk.flush()
