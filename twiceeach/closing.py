"""All effects of texts that are not empty, each with its least text (points 73 to 75)."""

from twiceeach.effects import combine, effect, unit
from twiceeach.errors import BadMachine, TooLarge
from twiceeach.machines import check_machines


def first_texts(candidates, found):
    """Return the first text of each effect that is not among those found, a dict with effects as its keys.

    The candidates are tuples (text, effect).
    """
    texts = {}
    for text, worth in candidates:
        if worth not in found and worth not in texts:
            texts[worth] = text
    return texts


def least_texts(machines, letters):
    """Return the least text of each effect of a text that is not empty, a dict in the order of the texts."""
    steps = [(letter, effect(machines, letter)) for letter in letters]
    found = {}
    level = {unit(machines): ""}
    while level:
        longer = [(text + letter, combine(worth, step)) for worth, text in level.items() for letter, step in steps]
        level = first_texts(longer, found)
        for worth, text in level.items():
            found[worth] = text
        if len(found) > Closing.LIMIT:
            raise TooLarge("effects", Closing.LIMIT)
    return found


def least_mirror_texts(machines, letters):
    """Return the least text that is its own mirror of each effect of such a text, a dict in the order of the texts."""
    steps = [(letter, effect(machines, letter)) for letter in letters]
    found = {}
    # A longer text is a letter, then a text that is two letters shorter, then the letter again.
    shorter = {unit(machines): ""}
    level = first_texts(steps, found)
    while level or shorter:
        for worth, text in level.items():
            found[worth] = text
        longer = [(letter + text + letter, combine(combine(step, worth), step))
                  for letter, step in steps for worth, text in shorter.items()]
        shorter = level
        level = first_texts(longer, found)
    return found


class Closing:
    """The effects of all texts that are not empty, and of those that are their own mirrors."""

    LIMIT = 60

    def __init__(self, machines):
        if len(machines) == 0:
            raise BadMachine()
        letters = machines[0].letters
        check_machines(letters, machines)
        texts = least_texts(machines, letters)
        mirror_texts = least_mirror_texts(machines, letters)
        self.effects = tuple(texts)
        self.mirrors = tuple(mirror_texts)
        self._texts = tuple(texts.values())
        self._mirror_texts = tuple(mirror_texts.values())

    def least(self, worth):
        """Return the least text of an effect, or None if there is none."""
        return self._texts[self.effects.index(worth)] if worth in self.effects else None

    def least_mirror(self, worth):
        """Return the least mirror text of an effect, or None if there is none."""
        return self._mirror_texts[self.mirrors.index(worth)] if worth in self.mirrors else None
