"""What of a web leads to the end, rings, and the verdict (points 34 to 36)."""

from twiceeach.errors import Endless
from twiceeach.pairs import END
from twiceeach.web import Web


def ways_out(web):
    """Return the move and the next pair on a shortest way to the end for each useful pair, None for the end."""
    before = {}
    for pair in web.pairs:
        for move, _, behind in web.steps(pair):
            before.setdefault(behind, []).append((pair, move))
    ways = {END: None} if web.solvable else {}
    waiting = list(ways)
    at = 0
    while at < len(waiting):
        behind = waiting[at]
        for pair, move in before.get(behind, []):
            if pair not in ways:
                ways[pair] = (move, behind)
                waiting.append(pair)
        at += 1
    return ways


def useful_pairs(web):
    """Return the useful pairs, a tuple in the order of the web."""
    ways = ways_out(web)
    return tuple(pair for pair in web.pairs if pair in ways)


def useful_steps(web):
    """Return the useful steps, a tuple of tuples (pair, move, freed pieces, next pair)."""
    ways = ways_out(web)
    found = []
    for pair in web.pairs:
        for move, freed, behind in web.steps(pair):
            if behind in ways:
                found.append((pair, move, freed, behind))
    return tuple(found)


def useful_starts(web):
    """Return the starts whose pairs are useful, a tuple in the order of the web."""
    ways = ways_out(web)
    return tuple((lot, freed, pair) for lot, freed, pair in web.starts if pair in ways)


def peeled(web):
    """Return the useful pairs that lead to no ring, a list: each one behind the next pairs of its useful steps."""
    many = {}
    before = {}
    for pair, _, _, behind in useful_steps(web):
        many[pair] = many.get(pair, 0) + 1
        before.setdefault(behind, []).append(pair)
    order = [END] if web.solvable else []
    at = 0
    while at < len(order):
        behind = order[at]
        for pair in before.get(behind, []):
            many[pair] -= 1
            if many[pair] == 0:
                order.append(pair)
        at += 1
    return order


def find_ring(web):
    """Return a ring of the web, a tuple of tuples (pair, move), or None if there is none."""
    ringless = {pair: True for pair in peeled(web)}
    onward = {}
    for pair, move, _, behind in useful_steps(web):
        if behind not in ringless:
            onward[pair] = (move, behind)
    if not onward:
        return None
    # Each pair here has a next pair here, so the way comes back to itself. A freed piece is gone from the pairs
    # behind it, so no step on the way round frees one.
    pair = list(onward)[0]
    met = {}
    trail = []
    while pair not in met:
        met[pair] = len(trail)
        move, behind = onward[pair]
        trail.append((pair, move))
        pair = behind
    return tuple(trail[met[pair]:])


def web_verdict(web):
    """Return the verdict on the book of a web for all lots."""
    starts = useful_starts(web)
    if not starts:
        return "none"
    all_freed = [freed for _, freed, _ in starts] + [freed for _, _, freed, _ in useful_steps(web)]
    if any([freed != () for freed in all_freed]) or find_ring(web) is not None:
        return "endless"
    return "finite"


def verdict(book):
    """Return "none", "finite" or "endless", as no, finitely many or infinitely many fillings fill the book."""
    return web_verdict(Web(book))


def walk_count(book):
    """Return the number of fillings that fill the book."""
    web = Web(book)
    if web_verdict(web) == "endless":
        raise Endless()
    steps = {}
    for pair, _, _, behind in useful_steps(web):
        steps.setdefault(pair, []).append(behind)
    counts = {END: 1}
    for pair in peeled(web):
        if pair != END:
            counts[pair] = sum([counts[behind] for behind in steps[pair]])
    return sum([counts[pair] for _, _, pair in useful_starts(web)])
