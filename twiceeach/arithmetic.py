"""Effects as numbers, with which vectors are made quickly (points 72 to 74)."""

from twiceeach.closing import Closing
from twiceeach.effects import combine, effect, turn, unit


class Arithmetic:
    """The effects of all texts, numbered in ascending order, with their products and their turned effects."""

    def __init__(self, machines):
        self.closing = Closing(machines)
        self.worths = tuple(sorted(set([unit(machines), *self.closing.effects])))
        number = {worth: at for at, worth in enumerate(self.worths)}
        self.unit_number = number[unit(machines)]
        self.letters = machines[0].letters
        self.of_letters = tuple(number[effect(machines, letter)] for letter in self.letters)
        self.products = [[number[combine(one, other)] for other in self.worths] for one in self.worths]
        self.turned_ones = [number[turn(worth)] for worth in self.worths]
        self.of_kind = {"any": [number[worth] for worth in self.closing.effects],
                        "mirror": [number[worth] for worth in self.closing.mirrors]}

    def number_of(self, worth):
        """Return the number of an effect, or None if the value is none."""
        return self.worths.index(worth) if worth in self.worths else None

    def numbers(self, vector):
        """Return the numbers of the values of a tuple, a tuple."""
        return tuple(self.number_of(worth) for worth in vector)

    def vector(self, numbers):
        """Return the effects of the numbers, a tuple."""
        return tuple(self.worths[at] for at in numbers)

    def all_choices(self, freed):
        """Return all choices of effects for the freed pieces, a list of tuples of numbers."""
        found = [()]
        for _, kind in freed:
            found = [(*choice, number) for choice in found for number in self.of_kind[kind]]
        return found

    def free_text(self, kind, number):
        """Return the least text of the effect of the number for a piece that is freed with the kind."""
        worth = self.worths[number]
        return self.closing.least(worth) if kind == "any" else self.closing.least_mirror(worth)
