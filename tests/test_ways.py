import copy
import random
import unittest

from stretchdeeds.algebras import done_to, joined, what_fails
from stretchdeeds.errors import NotLetBy, StretchError
from stretchdeeds.ways import Ways
from tests.algsamples import beside, first, greatest, last, let_by, maps, plain_fault, single, some_algebras, spoil_lists, sums
from tests.samples import ODD, Unasked, nested


def one_behind_the_other(algebra, names, value, many):
    """What comes of a value when the deeds are done to it in turn, by the algebra's own rows."""
    told = dict(algebra[4])
    for name in names:
        value = told[name][many % algebra[1]][value]
    return value


def put_together(chance, way, names):
    """A wait of all these deeds, parted anywhere, with idle ones in between."""
    if not names:
        return way.idle()
    if len(names) == 1 and chance.random() < 0.8:
        return way.wait_of(names[0])
    place = chance.randint(0 if chance.random() < 0.2 else min(1, len(names) - 1), max(1, len(names) - 1))
    return way.behind(put_together(chance, way, names[:place]), put_together(chance, way, names[place:]))


def from_the_left(way, names):
    wait = way.idle()
    for name in names:
        wait = way.behind(wait, way.wait_of(name))
    return wait


def from_the_right(way, names):
    wait = way.idle()
    for name in reversed(names):
        wait = way.behind(way.wait_of(name), wait)
    return wait


class RefusedTest(unittest.TestCase):
    def refused(self, algebra, what):
        kept = copy.deepcopy(algebra)
        with self.assertRaises(NotLetBy) as caught:
            Ways(algebra)
        self.assertEqual(caught.exception.what, what)
        self.assertIsInstance(caught.exception.what, tuple)
        self.assertIsInstance(caught.exception, StretchError)
        self.assertEqual(algebra, kept)

    def test_each_sort(self):
        add = [[0, 1, 2], [1, 2, 0], [2, 0, 1]]
        keep = ("keep", [[0, 1, 2]] * 2)
        self.refused((3, 2, add, 1, [keep], []), ("nothing", 0))
        self.refused((3, 2, [[0, 1, 2], [1, 1, 0], [2, 0, 1]], 0, [keep], []), ("parting", 1, 1, 2))
        self.refused((3, 2, add, 0, [keep, ("fill", [[1] * 3] * 2)], []), ("empty", "fill"))
        self.refused((3, 2, add, 0, [keep, ("lift", [[0, 1, 2], [1, 2, 0]])], []), ("doing", "lift", 0, 1, 0, 1))

    def test_drawn_ones(self):
        ended = {"let by": 0, "refused": 0}
        for algebra in some_algebras(51, 400):
            what = plain_fault(algebra)
            self.assertEqual(what_fails(algebra), what)
            if what is None:
                Ways(algebra)
            else:
                self.refused(algebra, what)
            ended["refused" if what else "let by"] += 1
        self.assertGreater(min(ended.values()), 10, ended)

    def test_none_of_those_that_are_let_by(self):
        for algebra in let_by():
            kept = copy.deepcopy(algebra)
            Ways(algebra)
            self.assertEqual(algebra, kept)


class KindsTest(unittest.TestCase):
    def test_values(self):
        for algebra in let_by():
            way = Ways(algebra)
            for value in range(-3, 12):
                self.assertIs(way.is_value(value), 0 <= value < algebra[0], value)

    def test_deeds_and_signs(self):
        for algebra in let_by():
            way = Ways(algebra)
            deeds, signs = [name for name, _ in algebra[4]], [name for name, _ in algebra[5]]
            for name in deeds + signs + ["", "a", "Up", "up ", "neither", "double\n", "abcdefghi"]:
                self.assertIs(way.is_deed(name), name in deeds, name)
                self.assertIs(way.is_sign(name), name in signs, name)

    def test_a_name_of_a_deed_and_of_a_sign(self):
        way = Ways((2, 1, [[0, 1], [1, 0]], 0, [("both", [[0, 1]]), ("one", [[0, 0]])], [("both", [1]), ("other", [])]))
        self.assertEqual([way.is_deed(name) for name in ("both", "one", "other")], [True, True, False])
        self.assertEqual([way.is_sign(name) for name in ("both", "one", "other")], [True, False, True])

    def test_things_of_other_kinds(self):
        things = [thing for thing in ODD if type(thing) not in (int, str)] + nested(60) + [
            10 ** 60, -1, 10 ** 3000, (1, 2), (((1,),), (1,)), (0, 5), ["up"], ("up",), {"up": 1}, {"up"}, [1], Unasked(),
            [Unasked()], b"up", bytearray(b"up"), "1", "0", 0.0, 1.0, "none\n", ["none"], ("none", [0]), None, True, False,
        ]
        for algebra in (single(), sums(2, 2), sums(8, 4), maps(2)):
            way = Ways(algebra)
            for thing in things:
                self.assertIs(way.is_value(thing), False, repr(thing)[:200])
                self.assertIs(way.is_deed(thing), False, repr(thing)[:200])
                self.assertIs(way.is_sign(thing), False, repr(thing)[:200])
            for number in range(-3, 12):
                self.assertIs(way.is_deed(number), False)
                self.assertIs(way.is_sign(number), False)
            for name in ("up", "none", "swap", ""):
                self.assertIs(way.is_value(name), False)

    def test_things_asked_of_stay(self):
        way = Ways(sums(3, 3))
        for thing in ([1, [2]], {"up": [1]}, ([0],)):
            kept = copy.deepcopy(thing)
            way.is_value(thing), way.is_deed(thing), way.is_sign(thing)
            self.assertEqual(thing, kept)


class ValuesTest(unittest.TestCase):
    def test_nothing_joined_values_and_signs(self):
        for algebra in let_by():
            n, _, join, nothing, _, signs = algebra
            way = Ways(algebra)
            self.assertEqual(way.nothing(), nothing)
            self.assertIs(type(way.nothing()), int)
            for a in range(n):
                for b in range(n):
                    self.assertEqual(way.join(a, b), join[a][b])
                for name, values in signs:
                    self.assertIs(way.has_sign(name, a), a in values)

    def test_in_order(self):
        self.assertEqual((Ways(last(4)).join(2, 3), Ways(last(4)).join(3, 2)), (3, 2))
        self.assertEqual((Ways(first(4)).join(0, 1), Ways(first(4)).join(1, 0)), (0, 1))
        self.assertEqual(Ways(first(4)).nothing(), 3)


class WaitsTest(unittest.TestCase):
    def each_spot(self, algebra):
        """Each value and count that may be handed in: with none only nothing."""
        spots = [(algebra[3], 0)]
        for many in list(range(1, 2 * algebra[1] + 2)) + [299, 300]:
            spots += [(value, many) for value in range(algebra[0])]
        return spots

    def does(self, algebra, way, wait, names):
        for value, many in self.each_spot(algebra):
            told = way.made(wait, value, many)
            self.assertEqual(told, one_behind_the_other(algebra, names, value, many), (algebra, names, value, many))

    def test_the_wait_of_a_deed(self):
        for algebra in let_by():
            way = Ways(algebra)
            for name, _ in algebra[4]:
                self.does(algebra, way, way.wait_of(name), [name])

    def test_the_idle_one(self):
        for algebra in let_by():
            way = Ways(algebra)
            self.does(algebra, way, way.idle(), [])
            self.does(algebra, way, way.behind(way.idle(), way.idle()), [])
            for name, _ in algebra[4]:
                self.does(algebra, way, way.behind(way.idle(), way.wait_of(name)), [name])
                self.does(algebra, way, way.behind(way.wait_of(name), way.idle()), [name])

    def test_two_in_order(self):
        for algebra in let_by():
            way = Ways(algebra)
            for one, _ in algebra[4]:
                for other, _ in algebra[4]:
                    self.does(algebra, way, way.behind(way.wait_of(one), way.wait_of(other)), [one, other])
        way = Ways(sums(5, 5))
        up, double = way.wait_of("up"), way.wait_of("double")
        self.assertEqual([way.made(way.behind(up, double), 1, many) for many in range(1, 6)], [4, 1, 3, 0, 2])
        self.assertEqual([way.made(way.behind(double, up), 1, many) for many in range(1, 6)], [3, 4, 0, 1, 2])

    def test_many_put_together_in_different_orders(self):
        chance = random.Random(61)
        for algebra in let_by():
            names = [name for name, _ in algebra[4]]
            if not names:
                continue
            way = Ways(algebra)
            for _ in range(4):
                chosen = [chance.choice(names) for _ in range(chance.randint(2, 12))]
                for made in (from_the_left, from_the_right):
                    self.does(algebra, way, made(way, chosen), chosen)
                self.does(algebra, way, put_together(chance, way, chosen), chosen)

    def test_waits_that_went_into_another_stay(self):
        algebra = sums(6, 6)
        way = Ways(algebra)
        one = way.behind(way.wait_of("up"), way.wait_of("double"))
        other = way.behind(one, way.wait_of("up"))
        both = way.behind(other, one)
        self.does(algebra, way, one, ["up", "double"])
        self.does(algebra, way, other, ["up", "double", "up"])
        self.does(algebra, way, both, ["up", "double", "up", "up", "double"])
        self.does(algebra, way, way.wait_of("up"), ["up"])
        self.does(algebra, way, way.idle(), [])

    def test_very_many(self):
        algebra = sums(7, 7)
        way = Ways(algebra)
        wait, names = way.wait_of("up"), ["up"]
        for _ in range(10):
            wait, names = way.behind(wait, wait), names + names
        self.does(algebra, way, wait, names)
        wait = from_the_left(way, ["up", "double"] * 1000)
        self.assertEqual(way.made(wait, 3, 5), one_behind_the_other(algebra, ["up", "double"] * 1000, 3, 5))

    def test_what_a_row_comes_to(self):
        chance = random.Random(62)
        for algebra in let_by():
            names = [name for name, _ in algebra[4]]
            way = Ways(algebra)
            for many in range(10):
                row = [chance.randrange(algebra[0]) for _ in range(many)]
                chosen = [chance.choice(names) for _ in range(chance.randint(0, 5))] if names else []
                whole = way.made(put_together(chance, way, chosen), joined(algebra, row), many)
                for name in chosen:
                    row = done_to(algebra, name, row)
                self.assertEqual(whole, joined(algebra, row))


class OwnTest(unittest.TestCase):
    def asked(self, way, algebra):
        """All that a way of this algebra answers."""
        n, m, _, _, deeds, signs = algebra
        names = [name for name, _ in deeds]
        told = [way.nothing()] + [way.join(a, b) for a in range(n) for b in range(n)]
        told += [way.is_value(thing) for thing in range(-1, 10)]
        told += [way.is_value(97), way.is_deed("spoiled"), way.is_sign("spoiled")]
        told += [way.is_deed(name) for name in names] + [way.is_sign(name) for name, _ in signs]
        told += [way.has_sign(name, a) for name, _ in signs for a in range(n)]
        waits = [way.idle()] + [way.wait_of(name) for name in names]
        waits += [way.behind(one, other) for one in waits for other in waits]
        return told + [way.made(wait, a, many) for wait in waits for a in range(n) for many in range(1, m + 1)]

    def test_behind_a_change_of_every_list_that_was_handed_in(self):
        for algebra in let_by():
            kept = copy.deepcopy(algebra)
            way = Ways(algebra)
            ahead = self.asked(way, kept)
            waits = [way.wait_of(name) for name, _ in kept[4]]
            spoil_lists(algebra)
            self.assertNotEqual(algebra, kept)
            self.assertEqual(self.asked(way, kept), ahead)
            self.assertEqual(self.asked(Ways(kept), kept), ahead)
            for wait, (_, told) in zip(waits, kept[4]):
                for value in range(kept[0]):
                    self.assertEqual(way.made(wait, value, 1), told[1 % kept[1]][value])

    def test_also_where_nothing_was_asked_ahead(self):
        for algebra in let_by():
            kept = copy.deepcopy(algebra)
            way = Ways(algebra)
            spoil_lists(algebra)
            self.assertEqual(self.asked(way, kept), self.asked(Ways(kept), kept))

    def test_two_ways_beside_one_another(self):
        algebras = [sums(6, 3), greatest(6, 3), maps(2), last(8), first(8), beside(sums(2, 2), greatest(3, 2))]
        alone = [self.asked(Ways(algebra), algebra) for algebra in algebras]
        ways = [Ways(algebra) for algebra in algebras]
        for _ in range(2):
            self.assertEqual([self.asked(way, algebra) for way, algebra in zip(ways, algebras)], alone)
        same = (Ways(algebras[0]), Ways(algebras[0]))
        self.assertEqual(self.asked(same[0], algebras[0]), self.asked(same[1], algebras[0]))

    def test_one_of_one_name_and_other_rows(self):
        one, other = sums(5, 5), sums(5, 5)
        other[4][2] = ("up", [[(a + 2 * c) % 5 for a in range(5)] for c in range(5)])
        first_way, second_way = Ways(one), Ways(other)
        self.assertEqual(first_way.made(first_way.wait_of("up"), 0, 1), 1)
        self.assertEqual(second_way.made(second_way.wait_of("up"), 0, 1), 2)
        self.assertEqual(first_way.made(first_way.wait_of("up"), 0, 1), 1)


class BeyondTest(unittest.TestCase):
    def test_somewhat_beyond_the_bounds(self):
        way = Ways(sums(9, 9))
        self.assertEqual(way.join(8, 8), 7)
        self.assertEqual(way.made(way.wait_of("up"), 8, 20), 1)
        self.assertEqual([way.is_value(8), way.is_value(9)], [True, False])


if __name__ == "__main__":
    unittest.main()
