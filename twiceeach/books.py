"""Books of equations and what they may consist of (points 9 and 10)."""

from twiceeach.errors import BadLetters, BadSymbol, StandsThrice, TooLarge
from twiceeach.symbols import MARK, is_letter, is_piece, name_of, names_in

MOST_LETTERS = 4
MOST_EQUATIONS = 4
MOST_SYMBOLS = 24
MOST_PIECES = 6


def check_letters(letters):
    """Raise BadLetters if the string is not an alphabet."""
    if not 1 <= len(letters) <= MOST_LETTERS:
        raise BadLetters(letters)
    if not all([is_letter(letter) for letter in letters]):
        raise BadLetters(letters)
    if not all([one < other for one, other in zip(letters, letters[1:])]):
        raise BadLetters(letters)


def is_letter_of(letters, symbol):
    """Return True if the string is one letter of the alphabet."""
    return is_letter(symbol) and symbol in letters


def check_row(letters, row):
    """Raise BadSymbol for the first string that is neither a piece nor a letter of the alphabet."""
    for symbol in row:
        if not is_piece(symbol) and not is_letter_of(letters, symbol):
            raise BadSymbol(symbol)


def check_standings(*rows):
    """Raise StandsThrice for the piece of the first symbol that is a third standing."""
    counts = {}
    for row in rows:
        for symbol in row:
            if is_piece(symbol):
                name = name_of(symbol)
                counts[name] = counts.get(name, 0) + 1
                if counts[name] > 2:
                    raise StandsThrice(name)


def check_equations(letters, equations):
    """Raise what the equations, a tuple of pairs of rows, do not keep of point 9."""
    if len(equations) > MOST_EQUATIONS:
        raise TooLarge("equations", MOST_EQUATIONS)
    rows = [row for equation in equations for row in equation]
    for row in rows:
        check_row(letters, row)
    if sum([len(row) for row in rows]) > MOST_SYMBOLS:
        raise TooLarge("symbols", MOST_SYMBOLS)
    check_standings(*rows)
    if len(names_in(*rows)) > MOST_PIECES:
        raise TooLarge("pieces", MOST_PIECES)


class Book:
    """An alphabet and equations between rows."""

    def __init__(self, letters, equations=()):
        made = tuple((tuple(left), tuple(right)) for left, right in equations)
        check_letters(letters)
        check_equations(letters, made)
        self.letters = letters
        self.equations = made
        rows = [row for equation in made for row in equation]
        self.pieces = names_in(*rows)

    def __eq__(self, other):
        return isinstance(other, Book) and self.letters == other.letters and self.equations == other.equations

    def __len__(self):
        return len(self.equations)

    def __iter__(self):
        return iter(self.equations)

    @property
    def size(self):
        """The number of symbols in all rows."""
        return sum([len(left) + len(right) for left, right in self.equations])

    def joined(self):
        """Return the joined pair: the sides in order, with a mark between neighbours."""
        lefts = [left for left, _ in self.equations]
        rights = [right for _, right in self.equations]
        return joined_rows(lefts), joined_rows(rights)


def joined_rows(rows):
    """Return the rows as one row, with a mark between neighbours."""
    made = []
    for at, row in enumerate(rows):
        if at > 0:
            made.append(MARK)
        made.extend(row)
    return tuple(made)
