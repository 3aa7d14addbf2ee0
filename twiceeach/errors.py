"""The errors that the program raises (point 2)."""


class TwiceError(ValueError):
    """The base class of all errors of the program."""


class BadBook(TwiceError):
    """What a book is made of does not make a book."""


class BadLetters(BadBook):
    """The string is not the alphabet that it has to be."""

    def __init__(self, letters):
        super().__init__(f"bad alphabet: {letters!r}")
        self.letters = letters


class BadSymbol(BadBook):
    """The string is not one of the symbols that may stand there."""

    def __init__(self, symbol):
        super().__init__(f"bad symbol: {symbol!r}")
        self.symbol = symbol


class StandsThrice(BadBook):
    """The piece has a third standing."""

    def __init__(self, name):
        super().__init__(f"the piece stands more than twice: {name}")
        self.name = name


class TooLarge(BadBook):
    """There are more of something than its limit allows."""

    def __init__(self, what, limit):
        super().__init__(f"too large: {what}, at most {limit}")
        self.what = what
        self.limit = limit


class BadNames(TwiceError):
    """A table or a tuple of names does not fit at the name."""

    def __init__(self, name):
        super().__init__(f"the names do not fit at {name!r}")
        self.name = name


class BadFilling(TwiceError):
    """A filling or free texts do not fit at the name."""

    def __init__(self, name):
        super().__init__(f"the texts do not fit at {name!r}")
        self.name = name


class BadLengths(TwiceError):
    """Lengths or places do not fit at the name."""

    def __init__(self, name):
        super().__init__(f"the lengths do not fit at {name!r}")
        self.name = name


class BadText(TwiceError):
    """The line of a string is not in its written form."""

    def __init__(self, line):
        super().__init__(f"not a written form, line {line}")
        self.line = line


class BadWalk(TwiceError):
    """A lot and moves are not a walk, which shows behind so many moves."""

    def __init__(self, at):
        super().__init__(f"not a walk, behind {at} moves")
        self.at = at


class BadMachine(TwiceError):
    """What should be a machine, or machines, is none."""


class BadRule(TwiceError):
    """A value is not a rule."""


class BadExchange(TwiceError):
    """What should be an exchange, or fit one, does not."""


class BadWord(TwiceError):
    """Integers are not the letters of a word."""


class NoShape(TwiceError):
    """The book has no small shape."""


class Endless(TwiceError):
    """Infinitely many fillings fill the book."""


class NoFilling(TwiceError):
    """There is no such filling that fills the book."""


class BadEdit(TwiceError):
    """The edit of a desk cannot be done."""


class NothingToUndo(BadEdit):
    """No call of edit is left to undo."""


class NothingToRedo(BadEdit):
    """No undone call of edit is left to redo."""


class NoSuchEquation(BadEdit):
    """The book has no equation of the number."""

    def __init__(self, number):
        super().__init__(f"no such equation: {number}")
        self.number = number


class NoSuchPiece(BadEdit):
    """There is no such piece, or nothing is told of it."""

    def __init__(self, name):
        super().__init__(f"no such piece: {name!r}")
        self.name = name
