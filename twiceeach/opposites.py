"""Words of letters and their opposites (points 127 to 129)."""

from twiceeach.errors import BadWord, TooLarge

KINDS = 4
MOST_SIGNS = 200


def short_form(row):
    """Return the row without the neighbours that are opposites of each other, a tuple."""
    made = []
    for letter in row:
        if made and made[-1] == -letter:
            made.pop()
        else:
            made.append(letter)
    return tuple(made)


def opposite_row(row):
    """Return the opposites of the letters of the row in the opposite order, a tuple."""
    return tuple(-letter for letter in row[::-1])


class Word:
    """A row of letters in its short form."""

    def __init__(self, letters):
        if not all([1 <= abs(letter) <= KINDS for letter in letters]):
            raise BadWord()
        made = short_form(letters)
        if len(made) > MOST_SIGNS:
            raise TooLarge("letters", MOST_SIGNS)
        self.letters = made

    def __eq__(self, other):
        return isinstance(other, Word) and self.letters == other.letters

    def __len__(self):
        return len(self.letters)

    def __iter__(self):
        return iter(self.letters)

    def __mul__(self, other):
        return Word(self.letters + other.letters)

    def __invert__(self):
        return Word(opposite_row(self.letters))

    def __pow__(self, many):
        made = Word(())
        # The powers of a word that is not empty become longer and longer, so that not many are made.
        for _ in range(many if self.letters else 0):
            made = made * self
        return made

    def commutator(self, other):
        """Return the commutator of this word and the other one, a word."""
        return Word(self.letters + other.letters + opposite_row(self.letters) + opposite_row(other.letters))

    def balanced(self):
        """Return True if each letter stands in the word as often as its opposite."""
        return all([self.letters.count(kind) == self.letters.count(-kind) for kind in range(1, KINDS + 1)])
