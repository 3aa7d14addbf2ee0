"""The fewest pieces by which a text is led to another one (points 112 and 113)."""

from twiceeach.errors import TooLarge
from twiceeach.exchanges import Exchange
from twiceeach.leading import leads_book
from twiceeach.papers import closed_paper, judge_closed
from twiceeach.placemaps import blocks_of, stretches

MOST_SIGNS = 8
NO_EMPTY_PIECES = ((),)


def check_texts(text, other):
    """Raise TooLarge if one of the two texts is too long."""
    if len(text) > MOST_SIGNS or len(other) > MOST_SIGNS:
        raise TooLarge("letters", MOST_SIGNS)


def lean_orders(many, *, turned=False):
    """Return the blocks of all lean exchanges of so many pieces, a list of tuples in ascending order."""
    choices = [block for block in range(-many if turned else 1, many + 1) if block != 0]
    found = [()]
    for _ in range(many):
        found = [(*blocks, block) for blocks in found for block in choices
                 if block not in blocks and -block not in blocks and (blocks == () or block != blocks[-1] + 1)]
    return found


def leading_maps(text, other):
    """Return all maps of places that show the other text on the places of the text, a list."""
    if len(text) != len(other):
        return []
    found = [()]
    for letter in other:
        found = [(*source, place) for source in found for place, one in enumerate(text)
                 if one == letter and place not in source]
    return found


def first_form(source, turned):
    """Return the first blocks, in ascending order, and the lengths with which so few pieces have the map."""
    exchange, lengths = blocks_of(source, turned=turned)
    if not turned:
        return exchange.blocks, lengths
    # A piece of one letter is the same one if it is turned, and negative blocks come first.
    blocks = tuple(-abs(block) if lengths[abs(block) - 1] == 1 else block for block in exchange.blocks)
    return blocks, lengths


def fewest(text, other, *, turned=False):
    """Return the first exchange with the fewest pieces that leads the text to the other one, and the lengths."""
    check_texts(text, other)
    steps = (1, -1) if turned else (1,)
    maps = [(len(stretches(source, steps)), source) for source in leading_maps(text, other)]
    if not maps:
        return None
    least = min([many for many, _ in maps])
    blocks, lengths = min([first_form(source, turned) for many, source in maps if many == least])
    return Exchange(blocks), lengths


def orders_up_to(many, turned):
    """Return the lean orders of 0 pieces, of 1 piece and so on up to so many pieces, a list."""
    return [blocks for size in range(many + 1) for blocks in lean_orders(size, turned=turned)]


def order_book(letters, blocks, text, other):
    """Return the leads-book of the exchange with the blocks."""
    return leads_book(letters, Exchange(blocks), text, other)


def check_bars(letters, text, other, many):
    """Raise what asking for bars for so many pieces raises."""
    check_texts(text, other)
    leads_book(letters, Exchange.plain(many), text, other)


def bars(letters, text, other, many, *, turned=False):
    """Return a closed paper for each lean order of at most so many pieces, a tuple, or None if one has none."""
    check_bars(letters, text, other, many)
    found = fewest(text, other, turned=turned)
    if found is not None and len(found[1]) <= many:
        return None
    orders = orders_up_to(many, turned)
    papers = [closed_paper(order_book(letters, blocks, text, other), lots=NO_EMPTY_PIECES) for blocks in orders]
    return tuple(zip(orders, papers))


def judge_bars(letters, text, other, many, paper, *, turned=False):
    """Return True if the tuple of tuples of blocks and a paper are bars of the two texts for so many pieces."""
    check_bars(letters, text, other, many)
    if [blocks for blocks, _ in paper] != orders_up_to(many, turned):
        return False
    return all([judge_closed(order_book(letters, blocks, text, other), part, lots=NO_EMPTY_PIECES)
                for blocks, part in paper])
