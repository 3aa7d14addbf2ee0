"""Pieces whose texts are their own mirrors, for told lengths (point 93)."""

from twiceeach.errors import BadNames, NoFilling
from twiceeach.gluing import Gluing, all_places, check_lengths, glued_sides, letter_choices


def mirror_pairs(name, length):
    """Return what is glued if the text of the piece is its own mirror, a list of tuples of two places."""
    return [((name, at), (name, length - 1 - at)) for at in range(length)]


def mirror_count(book, lengths, names):
    """Return the number of fillings with the lengths in which the texts of the pieces are their own mirrors."""
    check_lengths(book, lengths)
    for name in names:
        if name not in book.pieces:
            raise BadNames(name)
    glued = glued_sides(book, lengths)
    if glued is None:
        return 0
    mirrored_places = [pair for name in names for pair in mirror_pairs(name, lengths[name])]
    return letter_choices(book.letters, all_places(lengths), glued + mirrored_places)


def always_mirror(book, lengths, name):
    """Return True if the text of the piece is its own mirror in each filling with the lengths."""
    many = mirror_count(book, lengths, (name,))
    all_many = Gluing(book, lengths).many
    if all_many == 0:
        raise NoFilling()
    return many == all_many
