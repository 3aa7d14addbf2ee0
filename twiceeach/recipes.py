"""How steps and starts make vectors from vectors (point 83)."""

from twiceeach.forms import first_rows
from twiceeach.pairs import substitution
from twiceeach.symbols import is_turned, name_of, names_in


class Recipe:
    """Rows whose effects are made from the effects of some names and of freed pieces."""

    def __init__(self, arithmetic, names, freed, rows):
        self.freed = freed
        self.choices = arithmetic.all_choices(freed)
        self._arithmetic = arithmetic
        known = [*names, *[name for name, _ in freed], *arithmetic.letters]
        place = {name: at for at, name in enumerate(known)}
        self._rows = [[(place[name_of(symbol)], is_turned(symbol)) for symbol in row] for row in rows]

    def made(self, numbers, choice):
        """Return the numbers of the effects of the rows, for those of the names and a choice for the freed pieces."""
        known = numbers + choice + self._arithmetic.of_letters
        return tuple(self._made_row(row, known) for row in self._rows)

    def _made_row(self, row, known):
        """Return the number of the effect of one row."""
        made = self._arithmetic.unit_number
        for at, is_back in row:
            one = self._arithmetic.turned_ones[known[at]] if is_back else known[at]
            made = self._arithmetic.products[made][one]
        return made


def step_recipe(arithmetic, pair, step):
    """Return how a step of the pair makes vectors of it from those of the next pair."""
    move, freed, behind = step
    name, content = substitution(move)
    rows = [content if one == name else (one,) for one in names_in(*pair)]
    return Recipe(arithmetic, names_in(*behind), freed, rows)


def start_recipe(arithmetic, book, begun):
    """Return how a start (lot, freed pieces, pair) makes vectors of the book from those of its pair."""
    lot, freed, pair = begun
    return Recipe(arithmetic, names_in(*pair), freed, list(first_rows(book, lot).values()))
