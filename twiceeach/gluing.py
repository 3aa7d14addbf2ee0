"""Told lengths: which letters of the texts have to agree (points 55 to 59)."""

from twiceeach.books import is_letter_of
from twiceeach.errors import BadLengths, BadSymbol, TooLarge
from twiceeach.fillings import text_count, texts_of
from twiceeach.lots import Lots
from twiceeach.symbols import is_piece, is_turned, joined_names, name_of

MOST_LENGTH = 30
MOST_FILLINGS = 256


def check_lengths(book, lengths):
    """Raise BadLengths for the first name at which the dict does not fit."""
    for name in joined_names(book.pieces, lengths):
        if name not in book.pieces or name not in lengths or not 0 <= lengths[name] <= MOST_LENGTH:
            raise BadLengths(name)


def is_place(lengths, place):
    """Return True if the tuple of a string and an integer is a place."""
    name, at = place
    return name in lengths and 0 <= at < lengths[name]


def check_told(letters, lengths, told):
    """Raise what told letters do not keep of point 58."""
    for place in sorted(told):
        if not is_place(lengths, place):
            raise BadLengths(place[0])
    for place in sorted(told):
        if not is_letter_of(letters, told[place]):
            raise BadSymbol(told[place])


def spread(row, lengths):
    """Return the row with the places of its pieces in the place of the pieces, a list."""
    made = []
    for symbol in row:
        if is_piece(symbol):
            places = [(name_of(symbol), at) for at in range(lengths[name_of(symbol)])]
            made.extend(places[::-1] if is_turned(symbol) else places)
        else:
            made.append(symbol)
    return made


def glued_classes(places, glued):
    """Return the classes of the places when the places and letters of each tuple in a list are glued, a tuple.

    A class is a tuple of its places and its letters.
    """
    number = {place: at for at, place in enumerate(places)}
    lots = Lots(len(places))
    marked = []
    for one, other in glued:
        if one in number and other in number:
            lots.glue(number[one], number[other])
        elif one in number:
            marked.append((one, other))
        elif other in number:
            marked.append((other, one))
    classes = []
    for lot in lots.classes():
        inside = [places[at] for at in lot]
        found = sorted({letter for place, letter in marked if lots.together(number[place], lot[0])})
        classes.append((tuple(inside), tuple(found)))
    return tuple(classes)


def letters_clash(one, other):
    """Return True if two different letters, and not places, are glued to each other."""
    return isinstance(one, str) and isinstance(other, str) and one != other


def has_clash(classes, glued):
    """Return True if a class has two different letters, or if two different letters are glued to each other."""
    crowded = [places for places, letters in classes if len(letters) > 1]
    return crowded != [] or any([letters_clash(one, other) for one, other in glued])


def letter_choices(letters, places, glued):
    """Return the number of ways to give letters to the places in which all that is glued agrees."""
    classes = glued_classes(places, glued)
    if has_clash(classes, glued):
        return 0
    return text_count(letters, len([found for _, found in classes if found == ()]))


def all_places(lengths):
    """Return the places of the pieces with the lengths, a list in ascending order."""
    return [(name, at) for name in sorted(lengths) for at in range(lengths[name])]


def glued_sides(book, lengths):
    """Return the tuples of what the sides glue to each other, a list, or None if the lengths are uneven."""
    glued = []
    for left, right in book.equations:
        one, other = spread(left, lengths), spread(right, lengths)
        if len(one) != len(other):
            return None
        glued.extend(list(zip(one, other)))
    return glued


class Gluing:
    """The classes of the places for told lengths, and maybe told letters."""

    def __init__(self, book, lengths, *, told=None):
        check_lengths(book, lengths)
        letters_told = {} if told is None else told
        check_told(book.letters, lengths, letters_told)
        self._letters = book.letters
        self._lengths = {name: lengths[name] for name in book.pieces}
        glued = glued_sides(book, lengths)
        self.uneven = glued is None
        self.clash = False
        self.lots = ()
        if glued is not None:
            glued = glued + list(letters_told.items())
            self.lots = glued_classes(all_places(self._lengths), glued)
            self.clash = has_clash(self.lots, glued)
        self._index = {place: at for at, lot in enumerate(self.lots) for place in lot[0]}

    @property
    def free_lots(self):
        """The classes without a letter, a tuple."""
        return tuple(lot for lot in self.lots if lot[1] == ())

    @property
    def many(self):
        """The number of fillings that have the lengths and the told letters and fill the book."""
        if self.uneven or self.clash:
            return 0
        return text_count(self._letters, len(self.free_lots))

    def lot_at(self, place):
        """Return the index of the class of the place, or None if the lengths are uneven."""
        if not is_place(self._lengths, place):
            raise BadLengths(place[0])
        return self._index.get(place)

    def letter_at(self, place):
        """Return the letter of the class of the place if there is exactly one, otherwise None."""
        at = self.lot_at(place)
        if at is None or len(self.lots[at][1]) != 1:
            return None
        return self.lots[at][1][0]

    def fillings(self):
        """Return the fillings that have the lengths and the told letters and fill the book, a list in order."""
        if self.many > MOST_FILLINGS:
            raise TooLarge("fillings", MOST_FILLINGS)
        if self.many == 0:
            return []
        # The classes are in the order of their first places, so ascending choices give ascending fillings.
        return [self._filling(choice) for choice in texts_of(self._letters, len(self.free_lots))]

    def _filling(self, choice):
        """Return the filling in which the classes without a letter get those of the choice, in order."""
        letters = []
        used = 0
        for _, found in self.lots:
            if found:
                letters.append(found[0])
            else:
                letters.append(choice[used])
                used += 1
        texts = {}
        for name, length in self._lengths.items():
            texts[name] = "".join([letters[self._index[(name, at)]] for at in range(length)])
        return texts
