"""The least number of handles of a word (points 132 and 133)."""

from twiceeach.errors import TooLarge
from twiceeach.polygons import gluings, handles

MOST_SIDES = 12


def best_gluing(word):
    """Return the first gluing of the word with the least number of handles, or None if it is not balanced."""
    if len(word) > MOST_SIDES:
        raise TooLarge("letters", MOST_SIDES)
    found = [(handles(len(word), gluing), gluing) for gluing in gluings(word)]
    return min(found)[1] if found else None


def least_handles(word):
    """Return the least number of handles of the gluings of the word, or None if it is not balanced."""
    best = best_gluing(word)
    return None if best is None else handles(len(word), best)
