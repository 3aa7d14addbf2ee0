"""Exchanges of pieces (points 105 and 106)."""

from twiceeach.errors import BadExchange, TooLarge


class Exchange:
    """The numbers of pieces in a new order; a negative one tells that the piece is read from behind."""

    MOST = 12

    def __init__(self, blocks):
        made = tuple(blocks)
        if sorted([abs(block) for block in made]) != list(range(1, len(made) + 1)):
            raise BadExchange()
        if len(made) > Exchange.MOST:
            raise TooLarge("blocks", Exchange.MOST)
        self.blocks = made

    def __eq__(self, other):
        return isinstance(other, Exchange) and self.blocks == other.blocks

    def __call__(self, texts):
        return "".join(self.rearranged(texts))

    def __invert__(self):
        places = [(abs(block), at + 1 if block > 0 else -at - 1) for at, block in enumerate(self.blocks)]
        return Exchange([back for _, back in sorted(places)])

    def __neg__(self):
        return Exchange([-block for block in self.blocks[::-1]])

    def __mul__(self, other):
        if len(self.blocks) != len(other.blocks):
            raise BadExchange()
        firsts = [self.blocks[abs(block) - 1] for block in other.blocks]
        return Exchange([first if block > 0 else -first for first, block in zip(firsts, other.blocks)])

    @classmethod
    def plain(cls, many):
        """Return the exchange that leaves so many pieces as they are."""
        return cls(list(range(1, many + 1)))

    def rearranged(self, texts):
        """Return the texts in the order of the blocks, a list."""
        if len(texts) != len(self.blocks):
            raise BadExchange()
        return [texts[block - 1] if block > 0 else texts[-block - 1][::-1] for block in self.blocks]

    def is_lean(self):
        """Return True if no block is the block before it plus 1."""
        return all([block != before + 1 for before, block in zip(self.blocks, self.blocks[1:])])
