"""Exact fractions of integers."""

from math import gcd

from gangbooks.errors import BadShare
from gangbooks.signs import is_digits


def as_share(worth):
    """Return a share as it is, and an integer as a share."""
    if isinstance(worth, Share):
        return worth
    return Share(worth)


def divisor_of(share, other):
    """Return other as a share; raise BadShare, with the share to be divided, if it is 0."""
    divisor = as_share(other)
    if not divisor:
        raise BadShare(share)
    return divisor


def greater(one, other):
    """Return the greater one of two shares."""
    return other if (other - one).sign > 0 else one


def lesser(one, other):
    """Return the lesser one of two shares."""
    return other if (other - one).sign < 0 else one


class Share:
    """A fraction in lowest terms with a positive bottom."""

    def __init__(self, top, bottom=1):
        if bottom == 0:
            raise BadShare((top, bottom))
        factor = gcd(top, bottom)
        if bottom < 0:
            factor = -factor
        self.top = top // factor
        self.bottom = bottom // factor

    @classmethod
    def read(cls, text):
        """Return the share with this text."""
        top, slash, bottom = text.partition("/")
        if not is_digits(top.removeprefix("-")) or (slash != "" and not is_digits(bottom)):
            raise BadShare(text)
        below = int(bottom) if slash != "" else 1
        if below == 0:
            raise BadShare(text)
        share = cls(int(top), below)
        # Only the text of a share in lowest terms, without needless signs, is its own text again.
        if share.text() != text:
            raise BadShare(text)
        return share

    @property
    def sign(self):
        """-1, 0 or 1."""
        if self.top < 0:
            return -1
        return 1 if self.top > 0 else 0

    def text(self):
        """Return the top, and behind a slash the bottom, if that is not 1."""
        if self.bottom == 1:
            return str(self.top)
        return f"{self.top}/{self.bottom}"

    def over(self, other):
        """Return the quotient, a share."""
        divisor = divisor_of(self, other)
        return Share(self.top * divisor.bottom, self.bottom * divisor.top)

    def __add__(self, other):
        more = as_share(other)
        return Share(self.top * more.bottom + more.top * self.bottom, self.bottom * more.bottom)

    def __radd__(self, other):
        return self + other

    def __sub__(self, other):
        return self + -as_share(other)

    def __rsub__(self, other):
        return -self + other

    def __mul__(self, other):
        factor = as_share(other)
        return Share(self.top * factor.top, self.bottom * factor.bottom)

    def __rmul__(self, other):
        return self * other

    def __floordiv__(self, other):
        divisor = divisor_of(self, other)
        return (self.top * divisor.bottom) // (self.bottom * divisor.top)

    def __mod__(self, other):
        return self - (self // other) * other

    def __pow__(self, other):
        power = Share(1)
        for _ in range(other):
            power = power * self
        return power

    def __neg__(self):
        return Share(-self.top, self.bottom)

    def __abs__(self):
        return Share(abs(self.top), self.bottom)

    def __bool__(self):
        return bool(self.top != 0)

    def __eq__(self, other):
        return isinstance(other, Share) and self.top == other.top and self.bottom == other.bottom
