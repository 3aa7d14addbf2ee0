"""Exchanges that leave texts as they were, or that lead a text to another one (points 108, 110 and 111)."""

from twiceeach.books import Book
from twiceeach.fillings import text_count
from twiceeach.placemaps import place_map, rounds
from twiceeach.symbols import turned_symbol


def piece_name(number):
    """Return the name of the piece of a number in the books of an exchange."""
    return f"P{number}"


def plain_row(exchange):
    """Return the row of the pieces in order, a tuple."""
    return tuple(piece_name(at + 1) for at in range(len(exchange.blocks)))


def exchanged_row(exchange):
    """Return the row of the pieces in the order of the blocks, a tuple."""
    return tuple(piece_name(block) if block > 0 else turned_symbol(piece_name(-block)) for block in exchange.blocks)


def leaves_book(letters, exchange):
    """Return the book whose fillings are the texts that the exchange leaves as they were."""
    return Book(letters, [(plain_row(exchange), exchanged_row(exchange))])


def leads_book(letters, exchange, text, other):
    """Return the book whose fillings are the pieces by which the exchange leads the text to the other one."""
    return Book(letters, [(plain_row(exchange), tuple(text)), (exchanged_row(exchange), tuple(other))])


def left_count(letters, exchange, lengths):
    """Return the number of tuples of texts with the lengths that the exchange leaves as they were."""
    return text_count(letters, len(rounds(place_map(exchange, lengths))))


def known_text(blocks, pieces):
    """Return the exchanged text of the blocks ahead of the first one whose piece is not among the first pieces."""
    made = ""
    for block in blocks:
        if abs(block) > len(pieces):
            return made
        piece = pieces[abs(block) - 1]
        made = made + (piece if block > 0 else piece[::-1])
    return made


def may_lead(exchange, pieces, other):
    """Return True if the other text begins and ends with what the first pieces tell of the exchanged text."""
    # From behind, the exchanged text is that of the negative exchange.
    ahead, behind = known_text(exchange.blocks, pieces), known_text((-exchange).blocks, pieces)
    return other.startswith(ahead) and other.endswith(behind[::-1])


def cut_text(text, lengths):
    """Return the first pieces of the text, which have the lengths, a list."""
    ends = [sum(lengths[:at + 1]) for at in range(len(lengths))]
    return [text[end - length:end] for end, length in zip(ends, lengths)]


def longer_cuttings(lengths, many, size):
    """Return the lengths with each one for the next of so many pieces of a text of the size, a list."""
    left = size - sum(lengths)
    behind = many - len(lengths) - 1
    # Each piece behind the next one needs a letter, and the last one takes all that is left.
    least = max(1, left) if behind == 0 else 1
    return [(*lengths, length) for length in range(least, left - behind + 1)]


def leads(exchange, text, other):
    """Return the cuttings by which the exchange leads the text to the other one, a list in ascending order."""
    many = len(exchange.blocks)
    if len(text) != len(other) or (many == 0 and text != ""):
        return []
    found = [()]
    for _ in range(many):
        found = [lengths for shorter in found for lengths in longer_cuttings(shorter, many, len(text))
                 if may_lead(exchange, cut_text(text, lengths), other)]
    return found
