"""The numbers of solutions of the patterns of small shapes (point 123)."""

from math import gcd

from twiceeach.fillings import text_count


def half(size):
    """Return the number of letters that tell a text of the size that is its own mirror."""
    return (size + 1) // 2


def lead_letters(lengths):
    """Return the number of letters that tell a solution of `lead`, or None if there is none."""
    a, b, c = lengths
    if a != b:
        return None
    return c if a == 0 else a


def lead_mirror_letters(lengths):
    """Return the number of letters that tell a solution of `leadmirror`."""
    a, c = lengths
    return c if a == 0 else half(c % a) + half(a - c % a)


def mirror_letters(word, lengths):
    """Return the number of letters that tell a solution of `own`, `wholemirror` or `bothmirror`."""
    if word == "bothmirror":
        return sum([half(length) for length in lengths])
    return half(sum(lengths))


def free_letters(word, lengths):
    """Return the number of letters that tell a solution of the pattern, or None if there is none."""
    if word == "lead":
        return lead_letters(lengths)
    if word == "leadmirror":
        return lead_mirror_letters(lengths)
    if word in ("own", "wholemirror", "bothmirror"):
        return mirror_letters(word, lengths)
    a, b = lengths
    if word == "commute":
        return gcd(a, b)
    if a != b:
        return None
    return half(a) if word == "mirrorsquares" else a


def shape_count(letters, word, lengths):
    """Return the number of solutions of the pattern with one length for each role."""
    many = free_letters(word, lengths)
    return 0 if many is None else text_count(letters, many)
