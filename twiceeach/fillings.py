"""Fillings: texts for the pieces (points 11 to 13)."""

from twiceeach.errors import BadFilling
from twiceeach.symbols import is_piece, is_turned, joined_names, name_of


def put_in(row, filling):
    """Return the text of the row under the filling; a mark stands for itself."""
    return "".join([symbol_text(symbol, filling) for symbol in row])


def symbol_text(symbol, filling):
    """Return the text of one symbol under the filling."""
    if not is_piece(symbol):
        return symbol
    text = filling[name_of(symbol)]
    return text[::-1] if is_turned(symbol) else text


def is_text(letters, text):
    """Return True if each character of the string is in the alphabet."""
    return all([sign in letters for sign in text])


def is_own_mirror(text):
    """Return True if the text equals itself read from behind."""
    return text == text[::-1]


def check_filling(book, filling):
    """Raise BadFilling for the first name at which the dict is not a filling for the book."""
    for name in joined_names(book.pieces, filling):
        if name not in book.pieces or name not in filling or not is_text(book.letters, filling[name]):
            raise BadFilling(name)


def fills(book, filling):
    """Return True if the filling fills the book."""
    check_filling(book, filling)
    return all([put_in(left, filling) == put_in(right, filling) for left, right in book.equations])


def total(filling):
    """Return the sum of the lengths of the texts."""
    return sum([len(text) for text in filling.values()])


def mirrored(filling):
    """Return the filling with each text read from behind, the keys in ascending order."""
    return {name: filling[name][::-1] for name in sorted(filling)}


def filling_key(filling):
    """Return what orders the fillings for one book."""
    return total(filling), tuple(filling[name] for name in sorted(filling))


def texts_of(letters, length):
    """Return all texts of the length over the alphabet, a list in ascending order."""
    texts = [""]
    for _ in range(length):
        texts = [text + letter for text in texts for letter in letters]
    return texts


def mirror_texts_of(letters, length):
    """Return the texts of the length that are their own mirrors, a list in ascending order."""
    halves = texts_of(letters, (length + 1) // 2)
    return [half + half[:length // 2][::-1] for half in halves]


def text_count(letters, length):
    """Return the number of texts of the length over the alphabet."""
    count = 1
    for _ in range(length):
        count = count * len(letters)
    return count
