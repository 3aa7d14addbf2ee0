"""Small books for the tests, and answers found by plain search, without the program's own ways."""

import itertools

from twiceeach.books import Book


def book(letters, *equations):
    """A book of equations that are written as "X a = a X"; a side without symbols is written as nothing."""
    return Book(letters, [tuple(side.split() for side in equation.split("=")) for equation in equations])


def text_of(row, filling):
    """The text of a row, by the words of point 11."""
    text = ""
    for symbol in row:
        if symbol[0].isupper():
            text += filling[symbol[:-1]][::-1] if symbol[-1] == "~" else filling[symbol]
        else:
            text += symbol
    return text


def texts_up_to(letters, most):
    """All texts of at most this length."""
    return ["".join(text) for length in range(most + 1) for text in itertools.product(letters, repeat=length)]


def order(filling):
    """The order of point 13."""
    return sum(map(len, filling.values())), [filling[name] for name in sorted(filling)]


def search(sought, most):
    """All fillings of a book with a total of at most `most`, by trying all texts."""
    names = sorted({symbol.rstrip("~") for sides in sought.equations for row in sides for symbol in row
                    if symbol[0].isupper()})
    found = []

    def choose(filling, left):
        if len(filling) < len(names):
            for text in texts_up_to(sought.letters, left):
                choose({**filling, names[len(filling)]: text}, left - len(text))
        elif all(text_of(one, filling) == text_of(other, filling) for one, other in sought.equations):
            found.append(filling)

    choose({}, most)
    return sorted(found, key=order)


def search_pair(pair, letters, most):
    """All fillings of a pair (point 14) in which each text has 1 to `most` letters."""
    names = sorted({symbol.rstrip("~") for row in pair for symbol in row if symbol[0].isupper()})
    texts = texts_up_to(letters, most)[1:]
    fillings = [dict(zip(names, chosen)) for chosen in itertools.product(texts, repeat=len(names))]
    return [filling for filling in fillings if text_of(pair[0], filling) == text_of(pair[1], filling)]


def chosen_books():
    """Books that show one thing each: no equations, no pieces, no, few and infinitely many fillings .."""
    return [
        Book("ab"),
        book("a", "="),
        book("ab", "a b = a b"),
        book("ab", "a = b"),
        book("ab", "a ="),
        book("ab", "X ="),
        book("ab", "X = X"),
        book("ab", "X = X~"),
        book("abc", "X X~ ="),
        book("ab", "X a = a X"),
        book("ab", "X a = b X"),
        book("ab", "X a = X~ b"),
        book("ab", "X Y = a b a"),
        book("ab", "X Y = Y X"),
        book("ab", "X Y = Y~ X~"),
        book("ab", "X Y = Y X~"),
        book("ab", "X X = Y Y"),
        book("ab", "X X~ = Y Y"),
        book("ab", "X X~ = Y~ Y"),
        book("ab", "X a Y = Y b X"),
        book("ab", "X a b = b a X"),
        book("ab", "X a Y b = b Y a X"),
        book("ab", "X a = Y", "Y b = Z"),
        book("ab", "X a = a Y", "X = Y"),
        book("ab", "X a = a X", "Y b = b Y"),
        book("ab", "X b = Y X~"),
        book("ab", "X = a b", "Y = X~"),
        book("ab", "X Y = Z", "Z = a a b"),
        book("a", "X Y = Z a", "Z = Y X"),
        book("abc", "X = Y", "a Y = Z b", "= Z"),
    ]


class Dice:
    """A plain row of numbers that look like thrown ones, the same in each run."""

    def __init__(self, seed):
        self.state = seed

    def below(self, many):
        self.state = (self.state * 1103515245 + 12345) % 2 ** 31
        return self.state // 65536 % many


def thrown_book(dice):
    """A small book with 1 to 3 equations, 1 to 3 pieces that stand at most twice, and 1 or 2 letters."""
    letters = "ab"[:1 + dice.below(2)]
    names = ["X", "Y", "Z"][:1 + dice.below(3)]
    many = 1 + dice.below(3) if dice.below(3) == 0 else 1
    rows = [[] for _ in range(2 * many)]
    symbols = [name + "~" * (dice.below(3) == 0) for name in names + names if dice.below(6)]
    symbols += [letters[dice.below(len(letters))] for _ in range(dice.below(4))]
    for symbol in symbols:
        row = rows[dice.below(len(rows))]
        row.insert(dice.below(len(row) + 1), symbol)
    return Book(letters, list(zip(rows[::2], rows[1::2])))


def thrown_books(many, seed=1):
    """So many thrown books."""
    dice = Dice(seed)
    return [thrown_book(dice) for _ in range(many)]


def all_samples():
    """The chosen books and some thrown ones."""
    return chosen_books() + thrown_books(120)
