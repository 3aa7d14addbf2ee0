"""The vectors of a book and of the pairs of its web (points 82 to 84)."""

from twiceeach.arithmetic import Arithmetic
from twiceeach.errors import NoFilling
from twiceeach.forms import form_of
from twiceeach.machines import check_machines
from twiceeach.pairs import END
from twiceeach.recipes import start_recipe, step_recipe
from twiceeach.web import Web


def ways_back(web, arithmetic):
    """Return the steps that lead to each pair, a dict with lists of tuples (pair, move, recipe)."""
    ways = {}
    for pair in web.pairs:
        for step in web.steps(pair):
            move, _, behind = step
            ways.setdefault(behind, []).append((pair, move, step_recipe(arithmetic, pair, step)))
    return ways


def pair_vectors(web, arithmetic):
    """Return the vectors of each pair, as numbers, a dict of dicts.

    A vector has the way on which it is made with the fewest moves: their number, the first move, the freed pieces and
    the choice for them, the next pair and its vector.
    """
    found = {pair: {} for pair in web.pairs}
    if not web.solvable:
        return found
    ways = ways_back(web, arithmetic)
    found[END][()] = (0, None, (), (), END, ())
    waiting = [(END, ())]
    at = 0
    while at < len(waiting):
        behind, numbers = waiting[at]
        many = found[behind][numbers][0] + 1
        for pair, move, recipe in ways.get(behind, []):
            for choice in recipe.choices:
                made = recipe.made(numbers, choice)
                if made not in found[pair]:
                    found[pair][made] = (many, move, recipe.freed, choice, behind, numbers)
                    waiting.append((pair, made))
        at += 1
    return found


def book_vectors(web, arithmetic, known):
    """Return the vectors of the book, as numbers, a dict; `known` has those of the pairs.

    A vector has the way on which it is made with the fewest moves: their number, the lot, the freed pieces and the
    choice for them, the pair of the start and its vector.
    """
    found = {}
    for begun in web.starts:
        lot, freed, pair = begun
        recipe = start_recipe(arithmetic, web.book, begun)
        for numbers, way in known[pair].items():
            for choice in recipe.choices:
                made = recipe.made(numbers, choice)
                if made not in found or way[0] < found[made][0]:
                    found[made] = (way[0], lot, freed, choice, pair, numbers)
    return found


class Table:
    """The vectors of a book for machines, with a filling for each one."""

    def __init__(self, book, machines):
        check_machines(book.letters, machines)
        self._arithmetic = Arithmetic(machines)
        self.book = book
        self.web = Web(book)
        self._of_pairs = pair_vectors(self.web, self._arithmetic)
        self._of_book = book_vectors(self.web, self._arithmetic, self._of_pairs)
        self.vectors = self._in_order(self._of_book)

    def _in_order(self, found):
        """Return the vectors of the numbers, a tuple in ascending order."""
        # The numbers of the effects ascend as the effects do.
        return tuple(self._arithmetic.vector(numbers) for numbers in sorted(found))

    def vectors_at(self, pair):
        """Return the vectors of a pair of the web, a tuple in ascending order; a pair that is not there has none."""
        return self._in_order(self._of_pairs.get(pair, {}))

    def filling_with(self, vector):
        """Return a filling that fills the book and has the vector."""
        way = self._of_book.get(self._arithmetic.numbers(vector))
        if way is None:
            raise NoFilling()
        _, lot, freed, choice, pair, numbers = way
        texts = self._free_texts(freed, choice)
        taken = []
        while pair != END:
            _, move, freed, choice, pair, numbers = self._of_pairs[pair][numbers]
            taken.append(move)
            texts.update(self._free_texts(freed, choice))
        return form_of(self.book, (lot, tuple(taken))).fill(texts)

    def _free_texts(self, freed, choice):
        """Return the least texts of the freed pieces for a choice of effects, a dict."""
        return {name: self._arithmetic.free_text(kind, number) for (name, kind), number in zip(freed, choice)}
