"""Wide ways of joining: values are tuples of numbers that are added, or of which the greatest or the least counts."""

from stretchdeeds.algebras import is_within
from stretchdeeds.terms import is_whole


class Wides:
    # What the three wide ways have in common. Each tells for itself how numbers are put together: `join` place by
    # place, `across` a row of a deed and a value; by `zero`, which changes none it is joined with, and `unit`, which
    # leaves a number across it as it is.
    # A wait is a tuple (rows, more) as a deed is: deeds one behind the other always come to one deed.

    def __init__(self, width):
        self.width = width

    def is_value(self, thing):
        if not isinstance(thing, tuple) or len(thing) != self.width:
            return False
        return all([self.is_part(part) for part in thing])

    def is_deed(self, thing):
        if not isinstance(thing, tuple) or len(thing) != 2:
            return False
        rows = thing[0]
        if not isinstance(rows, tuple) or len(rows) != self.width:
            return False
        return all([self.is_value(row) for row in rows]) and self.is_value(thing[1])

    def is_sign(self, thing):
        if not isinstance(thing, tuple) or len(thing) != 2:
            return False
        return is_within(thing[0], 0, self.width - 1) and is_whole(thing[1])

    def nothing(self):
        return (self.zero(),) * self.width

    def has_sign(self, sign, value):
        number = value[sign[0]]
        return number is not None and number >= sign[1]

    def idle(self):
        places = list(range(self.width))
        rows = [tuple([self.unit() if i == j else self.zero() for j in places]) for i in places]
        return (tuple(rows), self.nothing())

    def wait_of(self, deed):
        return deed

    def behind(self, one, other):
        columns = [[row[j] for row in one[0]] for j in range(self.width)]
        rows = [tuple([self.across(row, column) for column in columns]) for row in other[0]]
        more = [self.across(row, one[1]) for row in other[0]]
        return (tuple(rows), self.join(more, other[1]))

    def made(self, wait, value, many):
        # Of none nothing comes, whatever more there is.
        if many == 0:
            return self.nothing()
        found = [self.across(row, value) for row in wait[0]]
        return self.join(found, self.often(wait[1], many))


class Sums(Wides):
    def is_part(self, thing):
        return is_whole(thing)

    def zero(self):
        return 0

    def unit(self):
        return 1

    def join(self, one, other):
        return tuple([a + b for a, b in zip(one, other)])

    def across(self, row, numbers):
        return sum([a * b for a, b in zip(row, numbers)])

    def often(self, more, many):
        return [number * many for number in more]


class Picks(Wides):
    # Of several numbers one counts, which Mosts and Leasts tell by `best`; None counts as none.

    def is_part(self, thing):
        return thing is None or is_whole(thing)

    def zero(self):
        return None

    def unit(self):
        return 0

    def join(self, one, other):
        return tuple([self.best([number for number in pair if number is not None]) for pair in zip(one, other)])

    def across(self, row, numbers):
        return self.best([a + b for a, b in zip(row, numbers) if a is not None and b is not None])

    def often(self, more, many):
        return more


class Mosts(Picks):
    def best(self, numbers):
        return max(numbers) if numbers else None


class Leasts(Picks):
    def best(self, numbers):
        return min(numbers) if numbers else None
