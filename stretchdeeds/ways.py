"""Ways of joining that are made of algebras."""

from stretchdeeds.algebras import check_let_by, is_within


def firm(rows):
    return tuple([tuple(row) for row in rows])


class Ways:
    # A wait is a tuple of rows like those of a deed: at [c][a] stands what it makes of a at count c. However many
    # deeds went into it, it stays that small; and being a tuple, it can be kept in many places at once.

    def __init__(self, algebra):
        check_let_by(algebra)
        self.size = algebra[0]
        self.around = algebra[1]
        self.table = firm(algebra[2])
        self.neutral = algebra[3]
        self.waits = dict([(name, firm(rows)) for name, rows in algebra[4]])
        self.holders = dict([(name, tuple(values)) for name, values in algebra[5]])

    def is_value(self, thing):
        return is_within(thing, 0, self.size - 1)

    def is_deed(self, thing):
        return isinstance(thing, str) and thing in self.waits

    def is_sign(self, thing):
        return isinstance(thing, str) and thing in self.holders

    def nothing(self):
        return self.neutral

    def join(self, one, other):
        return self.table[one][other]

    def has_sign(self, sign, value):
        return value in self.holders[sign]

    def idle(self):
        return (tuple(range(self.size)),) * self.around

    def wait_of(self, deed):
        return self.waits[deed]

    def behind(self, one, other):
        return tuple([tuple([then[a] for a in row]) for row, then in zip(one, other)])

    def made(self, wait, value, many):
        return wait[many % self.around][value]
