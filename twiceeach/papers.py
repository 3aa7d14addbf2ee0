"""Papers that show that a book has no filling, a walk, or infinitely many fillings (points 19, 37 and 38)."""

from twiceeach.following import follow, freed_in, is_whole, stations
from twiceeach.pairs import END, after, lots_of, moves, settle, start
from twiceeach.useful import find_ring, useful_starts, useful_steps, ways_out
from twiceeach.web import Web


def closed_paper(book, *, lots=None):
    """Return the pairs of the web in ascending order, a tuple, or None if the web is solvable."""
    web = Web(book, lots=lots)
    if web.solvable:
        return None
    return tuple(sorted(web.pairs))


def is_settled_live(pair):
    """Return True if the pair is live, and settling it frees nothing and leaves it as it is."""
    return pair != END and settle(pair) == ((), pair)


def judge_closed(book, paper, *, lots=None):
    """Return True if the tuple of pairs is a closed paper for the book and the lots."""
    if not all([is_settled_live(pair) for pair in paper]):
        return False
    listed = {pair: True for pair in paper}
    chosen = lots_of(book.pieces) if lots is None else lots
    results = [start(book, lot) for lot in chosen]
    results.extend([after(pair, move) for pair in listed for move in moves(pair)])
    return all([result is None or result[1] in listed for result in results])


def judge_walk(book, walk):
    """Return True if the walk is a walk of the book."""
    _, taken = walk
    return is_whole(stations(book, walk), taken)


def way_in(web, goal):
    """Return the lot and the moves of a shortest way from a start to a pair of the web."""
    begun = {}
    for lot, _, pair in web.starts:
        begun.setdefault(pair, lot)
    came = {}
    # The web lists its pairs in the order in which they are found, so the first way in is a shortest one.
    for pair in web.pairs:
        for move, _, behind in web.steps(pair):
            came.setdefault(behind, (pair, move))
    taken = []
    while goal not in begun:
        goal, move = came[goal]
        taken.append(move)
    return begun[goal], tuple(taken[::-1])


def way_out(web, pair):
    """Return the moves of a shortest way from a useful pair to the end, a tuple."""
    ways = ways_out(web)
    taken = []
    while pair != END:
        move, pair = ways[pair]
        taken.append(move)
    return tuple(taken)


def endless_paper(book):
    """Return an endless paper for the book, or None if there is none."""
    web = Web(book)
    for lot, freed, pair in useful_starts(web):
        if freed:
            return lot, (), (), way_out(web, pair)
    for pair, move, freed, behind in useful_steps(web):
        if freed:
            lot, before = way_in(web, pair)
            return lot, before, (), (move, *way_out(web, behind))
    ring = find_ring(web)
    if ring is None:
        return None
    pair, _ = ring[0]
    lot, before = way_in(web, pair)
    return lot, before, tuple(move for _, move in ring), way_out(web, pair)


def judge_endless(book, paper):
    """Return True if the tuple of four parts is an endless paper for the book."""
    lot, before, ring, behind = paper
    results = stations(book, (lot, before + behind))
    if not is_whole(results, before + behind):
        return False
    if not ring:
        return freed_in(results) != []
    _, pair = results[len(before)]
    round_trip = follow(pair, ring)
    return len(round_trip) == len(ring) and round_trip[-1][1] == pair
