"""Turnings of texts (point 94)."""


def all_turnings(text):
    """Return the turnings of the text by 0, 1, .., a list; the empty text has the one by 0."""
    return [text[at:] + text[:at] for at in range(max(1, len(text)))]


def turnings(text, other):
    """Return the numbers by which the other text is turned to the text, a tuple in ascending order."""
    return tuple(at for at, made in enumerate(all_turnings(other)) if made == text)


def least_turning(text):
    """Return the first one, in ascending order, of all turnings of the text."""
    return min(all_turnings(text))
