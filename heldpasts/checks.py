"""The errors of parameters that calls of several files have in common."""

from heldpasts.errors import InvalidArea, InvalidBlock, InvalidChanges, InvalidCount, InvalidImage, InvalidIndex
from heldpasts.errors import InvalidRecord, InvalidSigns, InvalidText
from heldpasts.records import is_changes
from heldpasts.texts import is_text


def is_number(value, low, high):
    """Whether a value is an integer from low to high."""
    return type(value) is int and low <= value <= high


def is_block(value, signs):
    return is_text(value) and len(value) <= signs


def check_signs(signs):
    if not is_number(signs, 100, 1000):
        raise InvalidSigns("signs are an integer from 100 to 1,000")


def check_image(image, signs):
    if type(image) is not tuple or not 4 <= len(image) <= 200:
        raise InvalidImage("an image is a tuple of 4 to 200 blocks")
    if not all([is_block(block, signs) for block in image]):
        raise InvalidImage("an image has a text of at most so many signs in each place")


def check_index(index, many):
    if not is_number(index, 0, many - 1):
        raise InvalidIndex("there is no block with this index")


def check_block(block, signs):
    if not is_block(block, signs):
        raise InvalidBlock("a block is a text of at most as many signs as the disk's")


def check_count(value, low, high):
    if not is_number(value, low, high):
        raise InvalidCount("this number is an integer from " + str(low) + " to " + str(high))


def check_from(value, low):
    if type(value) is not int or value < low:
        raise InvalidCount("this number is an integer from " + str(low) + " on")


def check_age(age):
    check_count(age, 0, 999999)


def check_area(first, count, many):
    if not is_number(count, 1, 197) or not is_number(first, 0, many - count):
        raise InvalidArea("an area is 1 to 197 blocks, all of them there")


def check_record(record):
    if not is_text(record):
        raise InvalidRecord("a record is a text")


def check_text(text):
    if not is_text(text):
        raise InvalidText("this is no string of printing ASCII signs")


def check_stretch(low, high):
    """Both bounds are texts or None, which is no bound."""
    for bound in (low, high):
        if bound is not None:
            check_text(bound)


def check_changes(changes):
    if not is_changes(changes):
        raise InvalidChanges("changes are an ascending tuple of unlike keys, each with a text or None")
