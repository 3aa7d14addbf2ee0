"""Letters, pieces, the mark, and rows of these (points 3 to 8)."""

MARK = "#"
TURN = "~"


def is_letter(symbol):
    """Return True if the string is a letter."""
    return len(symbol) == 1 and "a" <= symbol <= "z"


def is_name(text):
    """Return True if the string is the name of a piece."""
    if not 1 <= len(text) <= 4 or not "A" <= text[0] <= "Z":
        return False
    return all(["a" <= sign <= "z" or "0" <= sign <= "9" for sign in text[1:]])


def is_piece(symbol):
    """Return True if the string is a piece, straight or turned."""
    return is_name(name_of(symbol))


def is_turned(symbol):
    """Return True if the symbol is a turned piece."""
    return symbol.endswith(TURN)


def name_of(symbol):
    """Return the name of a piece; a letter and the mark stay as they are."""
    if is_turned(symbol):
        return symbol[:-1]
    return symbol


def turned_symbol(symbol):
    """Return the turned symbol of a symbol."""
    if is_turned(symbol):
        return symbol[:-1]
    if is_piece(symbol):
        return symbol + TURN
    return symbol


def turned(row):
    """Return the turned row, a tuple."""
    return tuple(turned_symbol(symbol) for symbol in row[::-1])


def names_in(*rows):
    """Return the names of the pieces in the rows, a tuple in ascending order."""
    return tuple(sorted({name_of(symbol) for row in rows for symbol in row if is_piece(symbol)}))


def standings(name, *rows):
    """Return the number of standings of the piece in all the rows."""
    return sum([row.count(name) + row.count(name + TURN) for row in rows])


def replaced(row, name, content):
    """Return the row with the piece replaced by the content, a tuple."""
    straight = tuple(content)
    # Most rows that are replaced in have no turned standing, or none at all.
    backward = turned(straight) if name + TURN in row else ()
    made = []
    for symbol in row:
        if symbol == name:
            made.extend(straight)
        elif symbol == name + TURN:
            made.extend(backward)
        else:
            made.append(symbol)
    return tuple(made)


def without(row, names):
    """Return the row without all standings of the pieces of the names, a tuple."""
    return tuple(symbol for symbol in row if name_of(symbol) not in names)


def fresh_names(names, many):
    """Return the first names of N0, N1, .. that are not among the names, a tuple."""
    found = []
    number = 0
    while len(found) < many:
        name = f"N{number}"
        if name not in names:
            found.append(name)
        number += 1
    return tuple(found)


def joined_names(due, keys):
    """Return the due names and the keys together, a list in ascending order without duplicates."""
    return sorted(set(due) | set(keys))
