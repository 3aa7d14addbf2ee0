"""Periods of texts (points 118 to 120)."""

from twiceeach.errors import TooLarge
from twiceeach.fillings import text_count, texts_of
from twiceeach.lots import Lots

MOST_SIGNS = 40
MOST_TEXTS = 256


def periods(text):
    """Return the periods of a text, a tuple in ascending order."""
    size = len(text)
    return tuple(period for period in range(1, size + 1) if text[period:] == text[:size - period])


def freest(length, wanted):
    """Return the freest text for the length and the wanted periods, a tuple of integers."""
    if length > MOST_SIGNS:
        raise TooLarge("length", MOST_SIGNS)
    lots = Lots(length)
    for period in wanted:
        for at in range(length - period):
            lots.glue(at, at + period)
    number = {lot[0]: at for at, lot in enumerate(lots.classes())}
    return tuple(number[lots.root(at)] for at in range(length))


def is_period_lot(length, wanted):
    """Return True if some text of the length has the wanted periods and no others below the length."""
    # Tuples have periods as texts do. The last one is the length, which is never wanted.
    return periods(freest(length, wanted))[:-1] == tuple(wanted)


def period_texts(letters, length, wanted):
    """Return all texts of the length over the alphabet with the wanted periods, a list in ascending order."""
    signs = freest(length, wanted)
    many = len(set(signs))
    if text_count(letters, many) > MOST_TEXTS:
        raise TooLarge("texts", MOST_TEXTS)
    # The classes are in the order of their first indices, so ascending choices give ascending texts.
    return ["".join([choice[sign] for sign in signs]) for choice in texts_of(letters, many)]
