"""Ways of each kind for the tests, each beside its points told once more in another way, on plain lists."""

from stretchdeeds.ways import Ways
from stretchdeeds.wides import Leasts, Mosts, Sums
from tests.algsamples import beside, first, greatest, last, maps, single, sums

MADE_BY = {"sums": Sums, "mosts": Mosts, "leasts": Leasts}
SIXTY = 10 ** 60 - 1
EIGHTY = 10 ** 80 - 1


class PlainAlgebra:
    """An algebra that is let by; to be held against Ways."""

    def __init__(self, algebra):
        self.n, self.m, self.table, self.nothing, self.deeds, self.signs = algebra
        self.algebra = algebra
        self.rows = dict(self.deeds)

    def __repr__(self):
        return f"PlainAlgebra({self.algebra!r})"

    def way(self):
        return Ways(self.algebra)

    def is_value(self, thing):
        return type(thing) is int and thing in range(self.n)

    def is_deed(self, thing):
        return type(thing) is str and thing in [name for name, _ in self.deeds]

    def is_sign(self, thing):
        return type(thing) is str and thing in [name for name, _ in self.signs]

    def whole(self, row):
        if not row:
            return self.nothing
        came = row[0]
        for value in row[1:]:
            came = self.table[came][value]
        return came

    def made(self, deed, value, many):
        return self.rows[deed][many % self.m][value]

    def done(self, deed, row):
        return [self.made(deed, value, 1) for value in row]

    def has(self, sign, value):
        return value in dict(self.signs)[sign]

    def value(self, chance):
        return chance.randrange(self.n)

    def deed(self, chance):
        return chance.choice(self.deeds)[0]

    def sign(self, chance):
        return chance.choice(self.signs)[0]


class PlainWide:
    """A wide way: adding ("sums"), by the greatest ("mosts") or by the least ("leasts")."""

    deeds = signs = True

    def __init__(self, kind, width, great=False):
        self.kind, self.width, self.great = kind, width, great
        self.nothing = (0 if kind == "sums" else None,) * width

    def __repr__(self):
        return f"PlainWide({self.kind!r}, {self.width})"

    def way(self):
        return MADE_BY[self.kind](self.width)

    def is_number(self, thing):
        return type(thing) is int or (thing is None and self.kind != "sums")

    def is_value(self, thing):
        return type(thing) is tuple and len(thing) == self.width and all(self.is_number(part) for part in thing)

    def is_deed(self, thing):
        if type(thing) is not tuple or len(thing) != 2 or type(thing[0]) is not tuple or len(thing[0]) != self.width:
            return False
        return all(self.is_value(part) for part in thing[0] + thing[1:])

    def is_sign(self, thing):
        if type(thing) is not tuple or len(thing) != 2 or [type(part) for part in thing] != [int, int]:
            return False
        return thing[0] in range(self.width)

    def counted(self, numbers):
        """What these numbers, perhaps with None among them, come to at one place."""
        if self.kind == "sums":
            return sum(numbers)
        there = sorted(number for number in numbers if number is not None)
        if not there:
            return None
        return there[-1] if self.kind == "mosts" else there[0]

    def whole(self, row):
        return tuple(self.counted([value[place] for value in row]) for place in range(self.width))

    def made(self, deed, value, many):
        if many == 0:
            return self.nothing
        rows, more = deed
        found = []
        for i in range(self.width):
            if self.kind == "sums":
                found.append(sum(rows[i][j] * value[j] for j in range(self.width)) + more[i] * many)
            else:
                pairs = [(rows[i][j], value[j]) for j in range(self.width)]
                found.append(self.counted([a + b for a, b in pairs if None not in (a, b)] + [more[i]]))
        return tuple(found)

    def done(self, deed, row):
        return [self.made(deed, value, 1) for value in row]

    def has(self, sign, value):
        number = value[sign[0]]
        return False if number is None else number >= sign[1]

    def number(self, chance, most=3, far=SIXTY):
        if self.kind != "sums" and chance.random() < 0.25:
            return None
        if self.great and chance.random() < 0.2:
            return chance.choice([far, -far, chance.randint(-far, far)])
        return chance.randint(-most, most)

    def numbers(self, chance, most=3, far=SIXTY):
        return tuple(self.number(chance, most, far) for _ in range(self.width))

    def value(self, chance):
        return self.numbers(chance, 5, EIGHTY)

    def deed(self, chance):
        # Numbers that are added grow with each deed, so most of them are small.
        most = 1 if self.kind == "sums" else 4
        return (tuple(self.numbers(chance, most) for _ in range(self.width)), self.numbers(chance, most))

    def sign(self, chance):
        return (chance.randrange(self.width), chance.randint(-12, 12))


def wides(great=False):
    return [PlainWide(kind, width, great) for kind in MADE_BY for width in (1, 2, 3)]


def algebras():
    found = [
        single(3), sums(5, 5), sums(8, 4), greatest(6), last(5, 3), first(4, 2), maps(2), maps(6),
        beside(maps(4), sums(2, 4)), beside(last(2, 3), first(4, 3)), beside(sums(2, 2), greatest(3, 2)),
    ]
    return [PlainAlgebra(algebra[:4] + (algebra[4][:6], algebra[5][:4])) for algebra in found]


def plains(great=False):
    return algebras() + wides(great)


def first_place(plain, row, i, sign):
    """The first place of point 22, each stretch joined anew."""
    for k in range(i, len(row)):
        if plain.has(sign, plain.whole(row[i:k + 1])):
            return k
    return None


def depth_of(test, plain, walk, row):
    """The depth of a walk that is to be one of this row; all that point 19 says of it is held against the row."""
    test.assertIs(type(walk), tuple)
    if len(row) < 2:
        test.assertEqual(walk, tuple(row))
        return 0
    test.assertEqual(len(walk), 3)
    whole, one, other = walk
    test.assertEqual(whole, plain.whole(row))
    place = values_in(one)
    test.assertIn(place, range(1, len(row)))
    depths = (depth_of(test, plain, one, row[:place]), depth_of(test, plain, other, row[place:]))
    test.assertLessEqual(abs(depths[0] - depths[1]), 1, walk)
    return 1 + max(depths)


def values_in(walk):
    return len(walk) if len(walk) < 3 else values_in(walk[1]) + values_in(walk[2])
