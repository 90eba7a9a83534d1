"""Texts, and the numbers that stand in them."""


def is_text(value):
    """Whether a value is a string of printing ASCII signs."""
    return type(value) is str and value.isascii() and value.isprintable()


def number_at(text, at, size):
    """The number that just so many digits of a text tell at an index, or None."""
    word = text[at:at + size]
    if len(word) == size and word.isdigit():
        return int(word)
    return None
