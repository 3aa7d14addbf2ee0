"""Maps of places: where an exchange takes its letters from (points 107 and 109)."""

from twiceeach.errors import BadExchange
from twiceeach.exchanges import Exchange
from twiceeach.gluing import MOST_LENGTH
from twiceeach.lots import Lots


def check_map(source):
    """Raise BadExchange if the tuple of integers is not a map of places."""
    if sorted(source) != list(range(len(source))):
        raise BadExchange()


def place_map(exchange, lengths):
    """Return the map of an exchange whose pieces have the lengths, a tuple."""
    runs = []
    begin = 0
    for length in lengths:
        if not 0 <= length <= MOST_LENGTH:
            raise BadExchange()
        runs.append(list(range(begin, begin + length)))
        begin += length
    return tuple(place for run in exchange.rearranged(runs) for place in run)


def chained(first, second):
    """Return the map of doing the first map and then the second one, a tuple."""
    check_map(first)
    check_map(second)
    if len(first) != len(second):
        raise BadExchange()
    return tuple(first[place] for place in second)


def back_map(source):
    """Return the map back, a tuple."""
    check_map(source)
    return tuple(new for _, new in sorted([(old, new) for new, old in enumerate(source)]))


def rounds(source):
    """Return the rounds of a map, a tuple of ascending tuples in ascending order of their least places."""
    check_map(source)
    lots = Lots(len(source))
    for new, old in enumerate(source):
        lots.glue(new, old)
    return lots.classes()


def goes_on(stretch, entry, steps):
    """Return True if the stretch is still one with the entry behind it; `steps` has how its entries may grow."""
    step = entry - stretch[-1]
    return step in steps and (len(stretch) == 1 or step == stretch[1] - stretch[0])


def stretches(source, steps):
    """Return the stretches of a map, from the left and each as long as possible, a list of lists."""
    found = []
    for entry in source:
        if found and goes_on(found[-1], entry, steps):
            found[-1].append(entry)
        else:
            found.append([entry])
    return found


def blocks_of(source, *, turned=False):
    """Return the exchange with the fewest blocks that has the map, and the lengths of its pieces."""
    check_map(source)
    found = stretches(source, (1, -1) if turned else (1,))
    pieces = sorted([(min(stretch), len(stretch)) for stretch in found])
    number = {least: at + 1 for at, (least, _) in enumerate(pieces)}
    # A descending stretch ends with its least entry; of one entry there is nothing to turn.
    blocks = [-number[stretch[-1]] if stretch[-1] < stretch[0] else number[stretch[0]] for stretch in found]
    return Exchange(blocks), tuple(length for _, length in pieces)
