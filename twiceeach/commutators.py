"""Balanced words as products of commutators (points 134 to 136)."""

from twiceeach.errors import BadWord
from twiceeach.genus import best_gluing
from twiceeach.opposites import Word, opposite_row


def crossing(gluing):
    """Return the first crossing of a gluing, or None if no pairs cross."""
    found = [(i, j, k, end) for i, j in gluing for k, end in gluing if i < k < j < end]
    return min(found, default=None)


def parts_around(row, found):
    """Return the five parts of a row ahead of, between and behind the sides of a crossing, a tuple."""
    i, j, k, end = found
    return row[:i], row[i + 1:k], row[k + 1:j], row[j + 1:end], row[end + 1:]


def rest_gluing(sides, gluing):
    """Return the pairs of the gluing whose sides are left, with the numbers that these have now."""
    number = {side: at for at, side in enumerate(sides)}
    pairs = [sorted([number[one], number[other]]) for one, other in gluing if one in number]
    return tuple((one, other) for one, other in sorted(pairs))


def split_off(letters, gluing):
    """Return the first word, the second word, the rest and its gluing, or None if no pairs cross."""
    found = crossing(gluing)
    if found is None:
        return None
    a, b = letters[found[0]], letters[found[2]]
    p, q, r, s, t = parts_around(letters, found)
    middle = s + r + q
    behind = opposite_row(middle) + opposite_row(p)
    first, second = Word((*p, a, *q, *behind)), Word((*p, *middle, b, *r, *q, *behind))
    ahead, one, other, last, end = parts_around(tuple(range(len(letters))), found)
    sides = ahead + last + other + one + end
    return first, second, tuple(letters[side] for side in sides), rest_gluing(sides, gluing)


def commutators(word):
    """Return the pairs of words the product of whose commutators is the word, a list in order."""
    gluing = best_gluing(word)
    if gluing is None:
        raise BadWord()
    found = []
    part = split_off(word.letters, gluing)
    while part is not None:
        first, second, letters, gluing = part
        found.append((first, second))
        part = split_off(letters, gluing)
    return found
