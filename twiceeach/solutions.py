"""The fillings of books of a small shape, made as the solutions of its pattern (points 123 to 125)."""

from math import gcd

from twiceeach.errors import NoShape
from twiceeach.fillings import filling_key, mirror_texts_of, texts_of
from twiceeach.letting import lengths_with_sum
from twiceeach.shapes import shape_of
from twiceeach.walks import check_most


def over(text, length):
    """Return the text written again and again, as far as the length; an empty text stays empty."""
    return (text * length)[:length]


def same_texts(letters, a, b):
    """Return the solutions of `same` and of `squares` with the lengths, a list of tuples of texts."""
    return [(text, text) for text in texts_of(letters, a)] if a == b else []


def mirror_texts(letters, a, b):
    """Return the solutions of `mirror` with the lengths."""
    return [(text, text[::-1]) for text in texts_of(letters, a)] if a == b else []


def own_texts(letters, a):
    """Return the solutions of `own` with the length."""
    return [(text,) for text in mirror_texts_of(letters, a)]


def commuting_texts(letters, a, b):
    """Return the solutions of `commute` with the lengths."""
    return [(over(text, a), over(text, b)) for text in texts_of(letters, gcd(a, b))]


def lead_texts(letters, a, b, c):
    """Return the solutions of `lead` with the lengths."""
    if a != b:
        return []
    if a == 0:
        return [("", "", text) for text in texts_of(letters, c)]
    return [(text, text[c % a:] + text[:c % a], over(text, c)) for text in texts_of(letters, a)]


def lead_mirror_texts(letters, a, c):
    """Return the solutions of `leadmirror` with the lengths."""
    if a == 0:
        return [("", text) for text in texts_of(letters, c)]
    fronts, backs = mirror_texts_of(letters, c % a), mirror_texts_of(letters, a - c % a)
    return [(front + back, over(front + back, c)) for front in fronts for back in backs]


def whole_mirror_texts(letters, a, b):
    """Return the solutions of `wholemirror` with the lengths."""
    return [(text[:a], text[a:]) for text in mirror_texts_of(letters, a + b)]


def both_mirror_texts(letters, a, b):
    """Return the solutions of `bothmirror` with the lengths."""
    others = mirror_texts_of(letters, b)
    return [(one, other) for one in mirror_texts_of(letters, a) for other in others]


def mirror_square_texts(letters, a, b):
    """Return the solutions of `mirrorsquares` with the lengths."""
    return [(text, text) for text in mirror_texts_of(letters, a)] if a == b else []


MAKERS = {
    "same": same_texts,
    "mirror": mirror_texts,
    "own": own_texts,
    "commute": commuting_texts,
    "lead": lead_texts,
    "leadmirror": lead_mirror_texts,
    "wholemirror": whole_mirror_texts,
    "bothmirror": both_mirror_texts,
    "squares": same_texts,
    "mirrorsquares": mirror_square_texts,
}


def named_filling(names, texts):
    """Return the filling that gives the texts to the names, its keys in ascending order."""
    return dict(sorted(zip(names, texts)))


def solutions(book, *, most):
    """Return the fillings with totals up to `most` that fill a book of a small shape, a list in order."""
    check_most(most)
    shape = shape_of(book)
    if shape is None:
        raise NoShape()
    word, names = shape
    maker = MAKERS[word]
    found = []
    for size in range(most + 1):
        for lengths in lengths_with_sum(names, size):
            sizes = tuple(lengths.values())
            found.extend([named_filling(names, texts) for texts in maker(book.letters, *sizes)])
    return sorted(found, key=filling_key)
