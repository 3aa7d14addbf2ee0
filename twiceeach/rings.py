"""Two rows that are alike as rings (points 95 to 100)."""

from twiceeach.books import Book
from twiceeach.cuts import cut_book, cut_lots, cuts
from twiceeach.cutting import mended_filling
from twiceeach.errors import TooLarge
from twiceeach.fillings import filling_key
from twiceeach.gluing import all_places, check_lengths, letter_choices, spread
from twiceeach.listing import fillings_with_lots
from twiceeach.papers import closed_paper, judge_closed
from twiceeach.walks import check_most
from twiceeach.web import Web

MOST_TURNINGS = 8


def ring_books(letters, left, right):
    """Return what `cut_book` returns for each cut of the two rows, a list in order."""
    whole = Book(letters, [(left, right)])
    return [cut_book(whole.letters, left, right, cut) for cut in cuts(left, right)]


def alike_ring(letters, left, right):
    """Return the first cut that some filling makes the two rows alike by, or None if there is none."""
    for cut, made in zip(cuts(left, right), ring_books(letters, left, right)):
        if Web(made[0], lots=cut_lots(made)).solvable:
            return cut
    return None


def ring_fillings(letters, left, right, *, most):
    """Return the fillings with totals up to `most` that make the two rows alike as rings, a list in order."""
    check_most(most)
    found = {}
    for made in ring_books(letters, left, right):
        book, parts = made
        for filling in fillings_with_lots(book, most, cut_lots(made)):
            whole = filling if parts is None else mended_filling(filling, *parts)
            found[filling_key(whole)] = whole
    return [found[key] for key in sorted(found)]


def ring_papers(letters, left, right):
    """Return a closed paper for each cut of the two rows, a tuple, or None if a cut has none."""
    papers = []
    for made in ring_books(letters, left, right):
        paper = closed_paper(made[0], lots=cut_lots(made))
        if paper is None:
            return None
        papers.append(paper)
    return tuple(papers)


def judge_ring_papers(letters, left, right, papers):
    """Return True if the tuple of tuples of pairs are ring papers of the two rows."""
    books = ring_books(letters, left, right)
    if len(papers) != len(books):
        return False
    return all([judge_closed(made[0], paper, lots=cut_lots(made)) for made, paper in zip(books, papers)])


def ring_count(letters, left, right, lengths):
    """Return the number of fillings with the lengths that make the two rows alike as rings."""
    ring_books(letters, left, right)
    check_lengths(Book(letters, [(left, right)]), lengths)
    one, other = spread(left, lengths), spread(right, lengths)
    if len(one) != len(other):
        return 0
    if len(one) > MOST_TURNINGS:
        raise TooLarge("turnings", MOST_TURNINGS)
    # A filling may make the rows alike by several turnings: fillings for an odd number of turnings are counted, and
    # those for an even number are taken off again.
    signed = [([], -1)]
    for at in range(max(1, len(one))):
        turned_ring = list(zip(one, other[at:] + other[:at]))
        signed = signed + [(glued + turned_ring, -sign) for glued, sign in signed]
    places = all_places(lengths)
    return sum([sign * letter_choices(letters, places, glued) for glued, sign in signed[1:]])
