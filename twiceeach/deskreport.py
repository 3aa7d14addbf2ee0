"""The reports of desks (point 146)."""

from twiceeach.symbols import standings


def piece_line(book, name, told):
    """Return the line of a piece of the book, whose told length is given in writing."""
    rows = [row for equation in book.equations for row in equation]
    many = standings(name, *rows)
    return f"{name:<4} {many:>2} {told:>3}"


def report(desk):
    """Return the report of a desk, a string."""
    now = desk.state()
    book = now.book
    lines = [piece_line(book, name, str(now.lengths.get(name, "-"))) for name in book.pieces]
    number = desk.number()
    many = "-" if number is None else str(number)
    lines.append(f"{desk.verdict():<7} {len(book):>2} {book.size:>3} {many:>9}")
    return "\n".join(lines)
