"""The written forms: writing and reading them (points 21 to 25)."""

from twiceeach.books import Book
from twiceeach.errors import BadBook, BadText
from twiceeach.symbols import MARK, is_letter, is_name, is_piece, name_of

NOTHING = "-"
EQUALS = " = "


def format_row(row):
    """Return the written form of a row."""
    return " ".join(row) if row else NOTHING


def format_book(book):
    """Return the written form of a book."""
    lines = [f"letters {book.letters}"]
    for left, right in book.equations:
        lines.append(format_row(left) + EQUALS + format_row(right))
    return "\n".join(lines)


def format_filling(filling):
    """Return the written form of a filling."""
    return "\n".join([name + EQUALS + (filling[name] or NOTHING) for name in sorted(filling)])


def format_walk(walk):
    """Return the written form of a walk."""
    lot, taken = walk
    return "\n".join([f"empty {format_row(lot)}", *[" ".join(move) for move in taken]])


def is_word(text):
    """Return True if the string is one or more letters from a to z."""
    return text != "" and all([is_letter(sign) for sign in text])


def symbols_of(text):
    """Return the strings that a written row consists of, a list."""
    return [] if text == NOTHING else text.split(" ")


def is_row(text):
    """Return True if the string is the written form of a row."""
    return all([is_letter(symbol) or is_piece(symbol) or symbol == MARK for symbol in symbols_of(text)])


def is_equation(text):
    """Return True if the line is the written forms of two rows with the sign between them."""
    left, sign, right = text.partition(EQUALS)
    return sign == EQUALS and is_row(left) and is_row(right)


def is_alphabet_line(text):
    """Return True if the line has the form of the first line of a book."""
    return text.startswith("letters ") and is_word(text[len("letters "):])


def is_filling_line(text, before):
    """Return True if the line has the form of a line of a filling behind the name `before`."""
    name, sign, worth = text.partition(EQUALS)
    return sign == EQUALS and is_name(name) and name > before and (worth == NOTHING or is_word(worth))


def is_lot_line(text):
    """Return True if the line has the form of the first line of a walk."""
    if not text.startswith("empty "):
        return False
    names = symbols_of(text[len("empty "):])
    return all([is_name(name) for name in names]) and all([one < other for one, other in zip(names, names[1:])])


def is_move_line(text):
    """Return True if the line has the form of a move."""
    parts = text.split(" ")
    if len(parts) != 3 or parts[0] not in ("is", "starts") or not is_piece(parts[1]):
        return False
    return is_letter(parts[2]) or (is_piece(parts[2]) and name_of(parts[1]) != name_of(parts[2]))


def check_lines(good):
    """Raise BadText for the first line that does not have its form: `good` has True or False for each line."""
    for at, is_good in enumerate(good):
        if not is_good:
            raise BadText(at + 1)


def parse_row(text):
    """Return the row that the string is the written form of."""
    check_lines([is_row(text)])
    return tuple(symbols_of(text))


def parse_book(text):
    """Return the book that the string is the written form of."""
    first, *others = text.split("\n")
    check_lines([is_alphabet_line(first), *[is_equation(line) for line in others]])
    sides = [line.partition(EQUALS) for line in others]
    equations = [(symbols_of(left), symbols_of(right)) for left, _, right in sides]
    try:
        return Book(first[len("letters "):], equations)
    except BadBook as error:
        raise BadText(0) from error


def parse_filling(text):
    """Return the filling that the string is the written form of, its keys in ascending order."""
    filling = {}
    if text == "":
        return filling
    before = ""
    for at, line in enumerate(text.split("\n")):
        if not is_filling_line(line, before):
            raise BadText(at + 1)
        before, _, worth = line.partition(EQUALS)
        filling[before] = "" if worth == NOTHING else worth
    return filling


def parse_walk(text):
    """Return the walk that the string is the written form of."""
    first, *others = text.split("\n")
    check_lines([is_lot_line(first), *[is_move_line(line) for line in others]])
    lot = tuple(symbols_of(first[len("empty "):]))
    return lot, tuple(tuple(line.split(" ")) for line in others)
