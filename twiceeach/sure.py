"""The places that have the same letter in all fillings with told lengths (point 60)."""

from twiceeach.errors import NoFilling
from twiceeach.gluing import Gluing


def sure_letters(book, lengths):
    """Return the letters of the sure places, a dict with its keys in ascending order."""
    gluing = Gluing(book, lengths)
    if gluing.many == 0:
        raise NoFilling()
    found = {}
    for name in book.pieces:
        for at in range(lengths[name]):
            letter = book.letters if len(book.letters) == 1 else gluing.letter_at((name, at))
            if letter is not None:
                found[(name, at)] = letter
    return found
