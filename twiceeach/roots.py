"""Roots of texts, and texts that commute (point 117)."""


def root(text):
    """Return the shortest text of which the text is a power; that of the empty text is empty."""
    if text == "":
        return ""
    # A text is found in two copies of it at the length of its root, and nowhere ahead of this but at 0.
    return text[:(text + text).find(text, 1)]


def exponent(text):
    """Return the number of times that the root stands in the text; it is 0 for the empty text."""
    return 0 if text == "" else len(text) // len(root(text))


def commute(first, second):
    """Return True if two texts make the same text in both orders."""
    return first + second == second + first
