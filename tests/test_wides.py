import copy
import itertools
import random
import unittest

from stretchdeeds.wides import Leasts, Mosts, Sums
from tests.plainways import EIGHTY, MADE_BY, SIXTY, PlainWide, wides
from tests.samples import ODD, Unasked, nested

NUMBERS = [0, 1, -1, 2, -7, SIXTY, -SIXTY, EIGHTY, -EIGHTY, 10 ** 80, -(10 ** 80), 10 ** 3999]
# None of these is a whole number; None itself is told apart, as it may stand in some places.
NO_NUMBERS = [
    True, False, "", "0", "1", "None", 0.0, 1.0, float("inf"), float("nan"), 1j, b"1", [], (), {}, [0], (0,), (1, 2), {0: 0},
    {0}, frozenset([0]), range(1), object(), int, len, Unasked(), [None], (None,), [0] * 2000, (0,) * 2000, "1" * 2000,
] + nested(58)


def each_place(thing, path=()):
    """The paths to all places within nested tuples, the thing's own place, (), among them."""
    found = [path]
    if type(thing) is tuple:
        for k, part in enumerate(thing):
            found += each_place(part, path + (k,))
    return found


def at_place(thing, path):
    for k in path:
        thing = thing[k]
    return thing


def with_other(thing, path, other):
    if not path:
        return other
    k = path[0]
    return thing[:k] + (with_other(thing[k], path[1:], other),) + thing[k + 1:]


def bent_tuples(told):
    """A tuple as a list, and with a part more or less."""
    return [list(told), told + (0,), told + (None,), told + told[-1:], told[:-1], told[1:], (told,), dict(enumerate(told))]


class KindsTest(unittest.TestCase):
    def told(self, plain, thing):
        """Of a thing it is told what the plain way tells, and the thing stays."""
        way = plain.way()
        for asked, expected in (
            (way.is_value, plain.is_value(thing)), (way.is_deed, plain.is_deed(thing)), (way.is_sign, plain.is_sign(thing)),
        ):
            self.assertIs(asked(thing), expected, (plain, asked, repr(thing)[:200]))

    def some_values(self, plain):
        parts = NUMBERS + ([] if plain.kind == "sums" else [None])
        if plain.width < 3:
            return list(itertools.product(parts, repeat=plain.width))
        chance = random.Random(71)
        return [tuple(chance.choice(parts) for _ in range(3)) for _ in range(150)]

    def some_deeds(self, plain):
        values = self.some_values(plain)
        chance = random.Random(72)
        return [
            (tuple(chance.choice(values) for _ in range(plain.width)), chance.choice(values)) for _ in range(100)
        ]

    def test_values(self):
        for plain in wides():
            way = plain.way()
            for value in self.some_values(plain):
                self.assertIs(way.is_value(value), True, (plain, value))
                self.assertIs(way.is_value(list(value)), False)
            self.assertIs(way.is_value(way.nothing()), True)

    def test_values_spoiled_at_one_place(self):
        for plain in wides():
            way = plain.way()
            for value in self.some_values(plain)[:40]:
                for thing in bent_tuples(value):
                    self.assertIs(way.is_value(thing), False, (plain, thing))
                for k in range(plain.width):
                    for odd in NO_NUMBERS:
                        spoiled = value[:k] + (odd,) + value[k + 1:]
                        self.assertIs(way.is_value(spoiled), False, (plain, repr(spoiled)[:200]))
                    with_none = value[:k] + (None,) + value[k + 1:]
                    self.assertIs(way.is_value(with_none), plain.kind != "sums", (plain, with_none))

    def test_deeds(self):
        for plain in wides():
            way = plain.way()
            for deed in self.some_deeds(plain):
                self.assertIs(way.is_deed(deed), True, (plain, deed))

    def test_deeds_spoiled_at_one_place(self):
        for plain in wides():
            way = plain.way()
            for deed in self.some_deeds(plain)[:4]:
                for path in each_place(deed):
                    here = at_place(deed, path)
                    for odd in NO_NUMBERS:
                        spoiled = with_other(deed, path, odd)
                        # In a tuple's stead some other tuple may do.
                        expected = type(here) is tuple and plain.is_deed(spoiled)
                        self.assertIs(way.is_deed(spoiled), expected, (plain, path, repr(spoiled)[:200]))
                    for odd in bent_tuples(here) if type(here) is tuple else []:
                        spoiled = with_other(deed, path, odd)
                        self.assertIs(way.is_deed(spoiled), False, (plain, path, repr(spoiled)[:200]))
                    with_none = with_other(deed, path, None)
                    may_stand = type(here) is not tuple and plain.kind != "sums"
                    self.assertIs(way.is_deed(with_none), may_stand, (plain, path))

    def test_signs(self):
        for plain in wides():
            way = plain.way()
            for number in NUMBERS:
                for place in range(-4, 8):
                    self.assertIs(way.is_sign((place, number)), 0 <= place < plain.width, (plain, place))
                for place in (SIXTY, -SIXTY, EIGHTY, 10 ** 3999):
                    self.assertIs(way.is_sign((place, number)), False)

    def test_signs_spoiled_at_one_place(self):
        for plain in wides():
            way = plain.way()
            for sign in [(0, 0), (plain.width - 1, -SIXTY)]:
                for odd in NO_NUMBERS + [None]:
                    self.assertIs(way.is_sign((odd, sign[1])), False, (plain, repr(odd)[:200]))
                    self.assertIs(way.is_sign((sign[0], odd)), False, (plain, repr(odd)[:200]))
                for thing in bent_tuples(sign):
                    self.assertIs(way.is_sign(thing), False, (plain, thing))

    def test_of_anything(self):
        nests = []
        for deep in (1, 2, 3, 58, 60):
            nests += nested(deep)
        things = ODD + NO_NUMBERS + NUMBERS + nests + [
            (Unasked(),), (Unasked(), Unasked()), ((Unasked(),), (0,)), (((Unasked(),),), (0,)), (((0,),), Unasked()),
            (0, Unasked()), (Unasked(), 0), [[0]] * 1000, ((0,),) * 1000, ((0,) * 1000, (0,)), ((0,), (0,) * 1900),
            (((0,) * 600,) * 3, (0,)), (0,) * 1999 + (None,), "up", "none", ("up", 1), ("0", 0), (0, "0"), {"rows": 1},
            ((), ()), ((), 0), (((),), ()), (((0,),), (0,)), (((0, 0), (0, 0)), (0, 0)), ([(0,)], (0,)), (([0],), (0,)),
            (((0,),), [0]), [((0,),), (0,)], (((0,),), 0), ((0,), 0), ((0,), (0,)), (((0,),), (0,), 0), (((0,),),),
        ]
        for plain in wides():
            for thing in things:
                self.told(plain, thing)

    def test_what_is_one_by_another_way(self):
        chance = random.Random(73)
        told = wides(great=True)
        things = [make(chance) for plain in told for make in (plain.value, plain.deed, plain.sign) for _ in range(8)]
        for plain in told:
            for thing in things:
                self.told(plain, thing)

    def test_things_asked_of_stay(self):
        for plain in wides():
            way = plain.way()
            for thing in ([0], ([0],), [(0,), (0,)], ([(0,)], [0]), {0: [0]}):
                kept = copy.deepcopy(thing)
                way.is_value(thing), way.is_deed(thing), way.is_sign(thing)
                self.assertEqual(thing, kept)


class ValuesTest(unittest.TestCase):
    def test_nothing(self):
        for width in (1, 2, 3):
            self.assertEqual(Sums(width).nothing(), (0,) * width)
            self.assertEqual(Mosts(width).nothing(), (None,) * width)
            self.assertEqual(Leasts(width).nothing(), (None,) * width)

    def test_joined_place_by_place(self):
        self.assertEqual(Sums(3).join((1, -5, 10 ** 80), (2, 3, -1)), (3, -2, 10 ** 80 - 1))
        self.assertEqual(Mosts(3).join((1, -5, None), (2, -7, 0)), (2, -5, 0))
        self.assertEqual(Leasts(3).join((1, -5, None), (2, -7, 0)), (1, -7, 0))
        self.assertEqual(Mosts(2).join((None, -3), (None, None)), (None, -3))
        self.assertEqual(Leasts(2).join((None, 3), (None, None)), (None, 3))
        self.assertEqual(Mosts(1).join((0,), (-EIGHTY,)), (0,))
        self.assertEqual(Leasts(1).join((0,), (EIGHTY,)), (0,))

    def test_drawn_ones(self):
        chance = random.Random(74)
        for plain in wides(great=True):
            way = plain.way()
            for _ in range(150):
                one, other, third = (plain.value(chance) for _ in range(3))
                both = way.join(one, other)
                self.assertIs(type(both), tuple)
                self.assertEqual(both, plain.whole([one, other]), (plain, one, other))
                self.assertEqual(way.join(both, third), way.join(one, way.join(other, third)))
                self.assertEqual(way.join(both, third), plain.whole([one, other, third]))
                self.assertEqual(way.join(way.nothing(), one), one)
                self.assertEqual(way.join(one, way.nothing()), one)

    def test_a_sign_at_the_number_itself_one_less_and_one_more(self):
        for kind, made_by in MADE_BY.items():
            for width in (1, 2, 3):
                way = made_by(width)
                for place in range(width):
                    for number in NUMBERS:
                        value = tuple(number if k == place else 5 - number for k in range(width))
                        told = [way.has_sign((place, number + more), value) for more in (-1, 0, 1)]
                        self.assertEqual([answer is True for answer in told], [True, True, False], (kind, value, place))
                        self.assertIs(told[2], False)

    def test_a_sign_of_none(self):
        for made_by in (Mosts, Leasts):
            for number in NUMBERS:
                self.assertIs(made_by(2).has_sign((0, number), (None, EIGHTY)), False)
                self.assertIs(made_by(2).has_sign((1, number), (EIGHTY, None)), False)
            self.assertIs(made_by(2).has_sign((1, EIGHTY), (None, EIGHTY)), True)


class DeedsTest(unittest.TestCase):
    def test_adding(self):
        way = Sums(2)
        wait = way.wait_of((((1, 2), (0, -1)), (10, -3)))
        self.assertEqual(way.made(wait, (5, 7), 1), (29, -10))
        self.assertEqual(way.made(wait, (5, 7), 4), (59, -19))
        self.assertEqual(way.made(wait, (0, 0), 0), (0, 0))
        self.assertEqual(way.made(wait, (0, 0), 300), (3000, -900))

    def test_by_the_greatest_and_by_the_least(self):
        deed = (((1, 2), (None, -1)), (None, -3))
        for many in (1, 2, 300):
            self.assertEqual(Mosts(2).made(deed, (5, 7), many), (9, 6))
            self.assertEqual(Leasts(2).made(deed, (5, 7), many), (6, -3))
            self.assertEqual(Mosts(2).made(deed, (None, -9), many), (-7, -3))
            self.assertEqual(Leasts(2).made(deed, (4, None), many), (5, -3))
            self.assertEqual(Mosts(2).made(deed, (None, None), many), (None, -3))
            self.assertEqual(Leasts(2).made(deed, (None, None), many), (None, -3))
        for made_by in (Mosts, Leasts):
            self.assertEqual(made_by(2).made(deed, (None, None), 0), (None, None))
            none = (((None, None), (None, None)), (None, None))
            self.assertEqual(made_by(2).made(made_by(2).wait_of(none), (5, 7), 2), (None, None))
            # 0 is a number, not none.
            self.assertEqual(made_by(1).made((((0,),), (None,)), (0,), 1), (0,))
            self.assertEqual(made_by(1).made((((None,),), (0,)), (None,), 1), (0,))

    def test_of_none_nothing(self):
        chance = random.Random(75)
        for plain in wides(great=True):
            way = plain.way()
            for _ in range(20):
                wait = way.behind(way.wait_of(plain.deed(chance)), way.wait_of(plain.deed(chance)))
                self.assertEqual(way.made(wait, way.nothing(), 0), plain.nothing)
                self.assertEqual(way.made(way.wait_of(plain.deed(chance)), way.nothing(), 0), plain.nothing)
            self.assertEqual(way.made(way.idle(), way.nothing(), 0), plain.nothing)

    def test_drawn_ones(self):
        chance = random.Random(76)
        for plain in wides(great=True):
            way = plain.way()
            for _ in range(150):
                deed, value = plain.deed(chance), plain.value(chance)
                for many in (1, 2, chance.randint(3, 300)):
                    came = way.made(way.wait_of(deed), value, many)
                    self.assertEqual(came, plain.made(deed, value, many), (plain, deed, value, many))
                    self.assertIs(way.is_value(came), True)


def in_turn(plain, deeds, value, many):
    for deed in deeds:
        value = plain.made(deed, value, many)
    return value


def from_the_left(way, deeds):
    wait = way.idle()
    for deed in deeds:
        wait = way.behind(wait, way.wait_of(deed))
    return wait


def from_the_right(way, deeds):
    wait = way.idle()
    for deed in reversed(deeds):
        wait = way.behind(way.wait_of(deed), wait)
    return wait


def anyhow(way, chance, deeds):
    """A wait of all these deeds, parted anywhere, with idle ones in between."""
    if not deeds:
        return way.idle()
    if len(deeds) == 1:
        wait = way.wait_of(deeds[0])
        return wait if chance.random() < 0.7 else way.behind(way.idle(), way.behind(wait, way.idle()))
    place = chance.randrange(1, len(deeds))
    return way.behind(anyhow(way, chance, deeds[:place]), anyhow(way, chance, deeds[place:]))


class WaitsTest(unittest.TestCase):
    def does(self, chance, plain, way, wait, deeds):
        self.assertEqual(way.made(wait, way.nothing(), 0), plain.nothing)
        for many in (1, 2, 3, chance.randint(4, 299), 300):
            value = plain.value(chance)
            told = way.made(wait, value, many)
            self.assertEqual(told, in_turn(plain, deeds, value, many), (plain, deeds, value, many))

    def test_the_idle_one(self):
        chance = random.Random(77)
        for plain in wides(great=True):
            way = plain.way()
            for _ in range(20):
                self.does(chance, plain, way, way.idle(), [])
                self.does(chance, plain, way, way.behind(way.idle(), way.idle()), [])
                deed = plain.deed(chance)
                self.does(chance, plain, way, way.behind(way.idle(), way.wait_of(deed)), [deed])
                self.does(chance, plain, way, way.behind(way.wait_of(deed), way.idle()), [deed])

    def test_two_in_order(self):
        way = Sums(1)
        double, more = way.wait_of((((2,),), (0,))), way.wait_of((((1,),), (1,)))
        self.assertEqual([way.made(way.behind(double, more), (5,), many) for many in (1, 4)], [(11,), (14,)])
        self.assertEqual([way.made(way.behind(more, double), (5,), many) for many in (1, 4)], [(12,), (18,)])
        # By the greatest nothing stays below 5, by the least nothing above.
        for made_by, value in ((Mosts, (0,)), (Leasts, (9,))):
            way = made_by(1)
            lift, bound = way.wait_of((((2,),), (None,))), way.wait_of((((0,),), (5,)))
            self.assertEqual(way.made(way.behind(bound, lift), value, 3), (7,))
            self.assertEqual(way.made(way.behind(lift, bound), value, 3), (5,))

    def test_many_put_together_in_different_orders(self):
        chance = random.Random(78)
        for plain in wides(great=True):
            way = plain.way()
            for many in list(range(2, 9)) + [25]:
                deeds = [plain.deed(chance) for _ in range(many)]
                self.does(chance, plain, way, from_the_left(way, deeds), deeds)
                self.does(chance, plain, way, from_the_right(way, deeds), deeds)
                for _ in range(2):
                    self.does(chance, plain, way, anyhow(way, chance, deeds), deeds)

    def test_very_many(self):
        chance = random.Random(79)
        for plain in wides():
            way = plain.way()
            deeds = [plain.deed(chance) for _ in range(300)]
            self.does(chance, plain, way, from_the_left(way, deeds), deeds)
            self.does(chance, plain, way, from_the_right(way, deeds), deeds)

    def test_waits_that_went_into_another_stay(self):
        chance = random.Random(80)
        for plain in wides(great=True):
            way = plain.way()
            one, other = plain.deed(chance), plain.deed(chance)
            kept = copy.deepcopy((one, other))
            both = way.behind(way.wait_of(one), way.wait_of(other))
            twice = way.behind(both, both)
            self.does(chance, plain, way, both, [one, other])
            self.does(chance, plain, way, twice, [one, other, one, other])
            self.does(chance, plain, way, way.wait_of(one), [one])
            self.does(chance, plain, way, way.idle(), [])
            self.assertEqual((one, other), kept)

    def test_what_a_row_comes_to(self):
        chance = random.Random(81)
        for plain in wides(great=True):
            way = plain.way()
            for many in list(range(8)) + [40]:
                row = [plain.value(chance) for _ in range(many)]
                deeds = [plain.deed(chance) for _ in range(chance.randint(0, 4))]
                came = way.made(anyhow(way, chance, deeds), plain.whole(row), many)
                for deed in deeds:
                    row = plain.done(deed, row)
                self.assertEqual(came, plain.whole(row), plain)


class BesideTest(unittest.TestCase):
    def answers(self, plain, way, chance):
        found = [way.nothing(), way.idle()]
        for _ in range(6):
            one, other, deed, sign = plain.value(chance), plain.value(chance), plain.deed(chance), plain.sign(chance)
            wait = way.behind(way.wait_of(deed), way.wait_of(plain.deed(chance)))
            found += [way.join(one, other), way.made(wait, one, 3), way.has_sign(sign, other)]
            for thing in (one, deed, sign, (0,), (0, 0), (0, 0, 0), (None,), (None, None)):
                found += [way.is_value(thing), way.is_deed(thing), way.is_sign(thing)]
        return found

    def test_two_ways_of_other_kinds_and_widths(self):
        told = wides(great=True)
        alone = [self.answers(plain, plain.way(), random.Random(82)) for plain in told]
        ways = [plain.way() for plain in told]
        for _ in range(2):
            self.assertEqual([self.answers(plain, way, random.Random(82)) for plain, way in zip(told, ways)], alone)
        for k, plain in enumerate(told):
            same = (plain.way(), told[k - 1].way(), plain.way())
            self.assertEqual(self.answers(plain, same[0], random.Random(82)), alone[k])
            self.assertEqual(self.answers(plain, same[2], random.Random(82)), alone[k])

    def test_one_value_by_three_ways(self):
        one, other, deed = (1, -2), (0, 3), (((1, 0), (0, 1)), (2, 2))
        joined = [way(2).join(one, other) for way in (Sums, Mosts, Leasts)]
        self.assertEqual(joined, [(1, 1), (1, 3), (0, -2)])
        made = [way(2).made(way(2).wait_of(deed), one, 5) for way in (Sums, Mosts, Leasts)]
        self.assertEqual(made, [(11, 8), (2, 2), (-2, -1)])


class BeyondTest(unittest.TestCase):
    def test_somewhat_beyond_the_bounds(self):
        for kind in MADE_BY:
            plain = PlainWide(kind, 4)
            way, chance = plain.way(), random.Random(83)
            deeds = [plain.deed(chance) for _ in range(3)]
            value = plain.value(chance)
            self.assertEqual([way.is_value(value), way.is_deed(deeds[0])], [True, True])
            self.assertEqual([way.is_sign((3, 0)), way.is_sign((4, 0))], [True, False])
            self.assertEqual(way.made(from_the_left(way, deeds), value, 301), in_turn(plain, deeds, value, 301))


if __name__ == "__main__":
    unittest.main()
