"""Polygons whose sides are glued in pairs (points 130 to 132)."""

from twiceeach.lots import Lots


def next_gluings(letters, pairs):
    """Return the pairs with each pair of the first side that is left, a list in ascending order."""
    glued = {side for pair in pairs for side in pair}
    left = [side for side in range(len(letters)) if side not in glued]
    return [(*pairs, (left[0], side)) for side in left[1:] if letters[side] == -letters[left[0]]]


def gluings(word):
    """Yield all gluings of the row of a word in ascending order."""
    # In a balanced word each choice of pairs can be completed.
    waiting = [()] if word.balanced() else []
    while waiting:
        pairs = waiting.pop()
        if 2 * len(pairs) == len(word):
            yield pairs
        else:
            # What is put behind all others is taken first, so the first pair goes last.
            waiting.extend(next_gluings(word.letters, pairs)[::-1])


def corners(many, gluing):
    """Return the classes of the corners of a polygon with so many sides, a tuple of ascending tuples."""
    lots = Lots(many)
    for one, other in gluing:
        lots.glue(one, (other + 1) % many)
        lots.glue((one + 1) % many, other)
    return lots.classes()


def handles(many, gluing):
    """Return the number of handles of a polygon with so many sides."""
    if many == 0:
        return 0
    return (len(gluing) + 1 - len(corners(many, gluing))) // 2
