"""Rows of integers, one for each resource."""

from gangbooks.errors import BadAmounts, Unknown


def refuse_lengths(left, right):
    """Raise BadAmounts, with the right row, if the rows differ in length."""
    if len(left.numbers) != len(right.numbers):
        raise BadAmounts(right.numbers)


class Amounts:
    """A row of one to three integers."""

    def __init__(self, *numbers):
        if not 1 <= len(numbers) <= 3:
            raise BadAmounts(numbers)
        self.numbers = numbers

    @staticmethod
    def of(resource_names, **named):
        """Return the row in which each keyword gives the number of its name."""
        for keyword in named:
            if keyword not in resource_names:
                raise Unknown(keyword)
        numbers = [named.get(name, 0) for name in resource_names]
        return Amounts(*numbers)

    def __add__(self, other):
        refuse_lengths(self, other)
        numbers = [one + two for one, two in zip(self.numbers, other.numbers)]
        return Amounts(*numbers)

    def __sub__(self, other):
        refuse_lengths(self, other)
        numbers = [one - two for one, two in zip(self.numbers, other.numbers)]
        return Amounts(*numbers)

    def __and__(self, other):
        refuse_lengths(self, other)
        numbers = [min(one, two) for one, two in zip(self.numbers, other.numbers)]
        return Amounts(*numbers)

    def __or__(self, other):
        refuse_lengths(self, other)
        numbers = [max(one, two) for one, two in zip(self.numbers, other.numbers)]
        return Amounts(*numbers)

    def __mul__(self, other):
        numbers = [number * other for number in self.numbers]
        return Amounts(*numbers)

    def __rmul__(self, other):
        return self * other

    def __floordiv__(self, other):
        refuse_lengths(self, other)
        if not other:
            raise BadAmounts(other.numbers)
        return min([one // two for one, two in zip(self.numbers, other.numbers) if two != 0])

    def __mod__(self, other):
        return self - (self // other) * other

    def __neg__(self):
        return self * -1

    def __abs__(self):
        return sum([abs(number) for number in self.numbers])

    def __contains__(self, x):
        refuse_lengths(self, x)
        return all([one <= two for one, two in zip(x.numbers, self.numbers)])

    def __eq__(self, other):
        return isinstance(other, Amounts) and self.numbers == other.numbers

    def __bool__(self):
        return any([number != 0 for number in self.numbers])

    def __getitem__(self, at):
        return self.numbers[at]

    def __len__(self):
        return len(self.numbers)

    def __iter__(self):
        return iter(self.numbers)
