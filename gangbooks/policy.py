"""Policies: the four words that say how a settling decides."""

from gangbooks.errors import BadPolicy


class Policy:
    """An order, a way to place, a way to evict and a way to fill."""

    ORDERS = ("share", "rank", "age", "short")
    PLACES = ("first", "tight", "loose")
    EVICTS = ("never", "owed", "any")
    FILLS = ("free", "strict", "hold")

    def __init__(self, order, place, evict, fill):
        self.words = (order, place, evict, fill)
        for word, choices in zip(self.words, (self.ORDERS, self.PLACES, self.EVICTS, self.FILLS)):
            if word not in choices:
                raise BadPolicy(word)
        self.order = order
        self.place = place
        self.evict = evict
        self.fill = fill

    @classmethod
    def read(cls, text):
        """Return the policy with this text."""
        words = text.split(" ")
        if len(words) != 4:
            raise BadPolicy(text)
        order, place, evict, fill = words
        try:
            return cls(order, place, evict, fill)
        except BadPolicy as e:
            raise BadPolicy(text) from e

    def text(self):
        """Return the four words with one space between them."""
        return " ".join(self.words)

    def __xor__(self, other):
        return [at for at, (one, two) in enumerate(zip(self.words, other.words)) if one != two]

    def __eq__(self, other):
        return isinstance(other, Policy) and self.words == other.words

    def __iter__(self):
        return iter(self.words)


def all_policies():
    """Yield all policies; the last word changes fastest."""
    for order in Policy.ORDERS:
        for place in Policy.PLACES:
            for evict in Policy.EVICTS:
                for fill in Policy.FILLS:
                    yield Policy(order, place, evict, fill)
