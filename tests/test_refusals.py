import random
import unittest

from stretchdeeds.errors import NoDeed, NoMake, NoSign, NoStretch, NoValue, StretchError, TooGreat
from stretchdeeds.makes import Makes
from stretchdeeds.ways import Ways
from stretchdeeds.wides import Leasts, Mosts, Sums
from tests.algsamples import maps, sums
from tests.plainways import PlainAlgebra, PlainWide, plains
from tests.samples import ODD, Unasked, nested

NO_NUMBER_OF_A_MAKE = [-1, -2, -300, 10 ** 60, -(10 ** 60), 10 ** 4000]
# In each of the ways of these tests none of them is a value, a deed or a sign.
NOTHING_AT_ALL = [
    None, True, False, -1, 99, 10 ** 60, 1.5, float("nan"), "", "neither", "Up", "up ", b"up", [], (), {}, [0], ["up"],
    ("up",), {"up"}, {"up": 1}, object(), int, Unasked(), (Unasked(),), (Unasked(), 0), (0, Unasked()), (True,), ("0",),
    (0, True), (True, 0), (-1, 0), (4, 0), (0, None), (0, 0, 0, 0), [0] * 2000, (0,) * 2000, "u" * 2000,
    (((0,),), 0), (((True,),), (0,)), (((0,),), [0]), ([(0,)], (0,)),
] + nested(60)


class RefusalCase(unittest.TestCase):
    def some_makes(self, plain):
        """A set with makes of 3, 0, 300, 150 and 151 values, and their rows."""
        chance = random.Random(131)
        makes, rows = Makes(plain.way()), []
        for many in (3, 0, 300, 150, 151):
            rows.append([plain.value(chance) for _ in range(many)])
            makes.made(list(rows[-1]))
        return makes, rows

    def refused(self, error, asked, *told):
        with self.assertRaises(StretchError) as caught:
            asked(*told)
        self.assertIs(type(caught.exception), error, repr(told)[:300])

    def stayed(self, plain, makes, rows):
        """No make came, and those that are there answer as before."""
        self.refused(NoMake, makes.many, len(rows))
        for make, row in enumerate(rows):
            self.assertEqual(makes.many(make), len(row))
            self.assertEqual(makes.listed(make), row)
            self.assertEqual(makes.asked(make, 0, len(row)), plain.whole(row))
        self.assertEqual(makes.made([]), len(rows))
        rows.append([])


def asker(plain):
    """A good deed, value and sign of the way; of an algebra's without deeds or signs None in their stead."""
    chance = random.Random(132)
    return plain.deed(chance) if plain.deeds else None, plain.value(chance), plain.sign(chance) if plain.signs else None


class OneRefusalTest(RefusalCase):
    def test_a_make_that_there_is_not(self):
        for plain in plains():
            makes, rows = self.some_makes(plain)
            deed, value, sign = asker(plain)
            for make in NO_NUMBER_OF_A_MAKE + [5, 6, 300]:
                for asked, told in (
                    (makes.done, (0, 0, deed)), (makes.turned, (0, 0)), (makes.changed, (0, value)), (makes.put_in, (0, 0)),
                    (makes.cut, (0, 0)), (makes.many, ()), (makes.listed, ()), (makes.asked, (0, 0)), (makes.walk, ()),
                    (makes.first, (0, sign)),
                ):
                    self.refused(NoMake, asked, make, *told)
                self.refused(NoMake, makes.put_in, 0, 0, make)
            self.stayed(plain, makes, rows)

    def test_of_a_set_without_makes(self):
        makes = Makes(Sums(1))
        for make in (-1, 0, 1):
            for asked in (makes.many, makes.listed, makes.walk):
                self.refused(NoMake, asked, make)
            self.refused(NoMake, makes.put_in, make, 0, make)
        self.assertEqual(makes.made([]), 0)

    def test_stretches_that_are_none(self):
        for plain in plains():
            makes, rows = self.some_makes(plain)
            deed, _, _ = asker(plain)
            for make, many in ((0, 3), (1, 0), (2, 300)):
                wrong = [(i, j) for i in range(-2, 6) for j in range(-2, 6) if not 0 <= i <= j <= many]
                wrong += [(many, many + 1), (many + 1, many + 1), (0, many + 1), (-1, many), (1, 0), (many, many - 1), (-1, -1)]
                wrong += [(0, 10 ** 60), (-(10 ** 60), 0), (10 ** 60, 10 ** 60), (10 ** 60, 0), (0, 10 ** 4000)]
                for i, j in wrong:
                    for asked in (makes.turned, makes.cut, makes.asked):
                        self.refused(NoStretch, asked, make, i, j)
                    self.refused(NoStretch, makes.done, make, i, j, deed)
            self.stayed(plain, makes, rows)

    def test_single_places_that_are_none(self):
        for plain in plains():
            makes, rows = self.some_makes(plain)
            _, value, sign = asker(plain)
            for make, many in ((0, 3), (1, 0), (2, 300)):
                for i in (-1, -2, -many - 1, many + 1, many + 2, 10 ** 60, -(10 ** 60), 10 ** 4000):
                    self.refused(NoStretch, makes.changed, make, i, value)
                    self.refused(NoStretch, makes.put_in, make, i, 1)
                    self.refused(NoStretch, makes.first, make, i, sign)
                # A value is changed at a place where one stands, so not at the end.
                self.refused(NoStretch, makes.changed, make, many, value)
            self.stayed(plain, makes, rows)

    def test_what_is_no_value(self):
        for plain in plains():
            makes, rows = self.some_makes(plain)
            _, value, _ = asker(plain)
            for thing in NOTHING_AT_ALL + ODD:
                if plain.is_value(thing):
                    continue
                self.refused(NoValue, makes.changed, 0, 1, thing)
                for row in ([thing], [value, thing], [thing, value], [value] * 7 + [thing] + [value] * 7, [thing] * 3):
                    self.refused(NoValue, makes.made, row)
            self.refused(NoValue, makes.made, [value] * 299 + [True])
            self.stayed(plain, makes, rows)

    def test_what_is_no_list(self):
        for plain in plains():
            makes, rows = self.some_makes(plain)
            _, value, _ = asker(plain)
            for thing in (None, 0, "", "01", (), (value,), {}, {value: value}):
                self.refused(NoValue, makes.made, thing)
            self.stayed(plain, makes, rows)

    def test_what_is_no_deed(self):
        for plain in plains():
            makes, rows = self.some_makes(plain)
            for thing in NOTHING_AT_ALL + ODD:
                if not plain.is_deed(thing):
                    for i, j in ((0, 3), (1, 2), (2, 2)):
                        self.refused(NoDeed, makes.done, 0, i, j, thing)
                    self.refused(NoDeed, makes.done, 1, 0, 0, thing)
            self.stayed(plain, makes, rows)

    def test_what_is_no_sign(self):
        for plain in plains():
            makes, rows = self.some_makes(plain)
            for thing in NOTHING_AT_ALL + ODD:
                if not plain.is_sign(thing):
                    for i in (0, 1, 3):
                        self.refused(NoSign, makes.first, 0, i, thing)
                    self.refused(NoSign, makes.first, 1, 0, thing)
            self.stayed(plain, makes, rows)

    def test_deeds_values_and_signs_in_one_another_s_stead(self):
        for plain, value, deed, sign in (
            (PlainAlgebra(sums(4, 4)), 1, "up", "odd"), (PlainWide("sums", 1), (1,), (((1,),), (1,)), (0, 1)),
            (PlainWide("mosts", 3), (0, 1, None), (((0, 1, 2),) * 3, (1, 2, 3)), (2, 1)),
        ):
            makes, rows = self.some_makes(plain)
            for thing in (deed, sign):
                self.refused(NoValue, makes.made, [value, thing])
                self.refused(NoValue, makes.changed, 0, 0, thing)
            for thing in (value, sign):
                self.refused(NoDeed, makes.done, 0, 0, 1, thing)
            for thing in (value, deed):
                self.refused(NoSign, makes.first, 0, 0, thing)
            self.stayed(plain, makes, rows)

    def test_those_of_another_way(self):
        one, two, most, least, tables = Makes(Sums(1)), Makes(Sums(2)), Makes(Mosts(2)), Makes(Leasts(2)), Makes(Ways(maps(2)))
        self.refused(NoValue, one.made, [(1, 2)])
        self.refused(NoValue, two.made, [(1,)])
        self.refused(NoValue, two.made, [(1, None)])
        self.refused(NoValue, tables.made, [4])
        self.refused(NoValue, tables.made, [(1,)])
        for makes, row in ((one, [(1,)]), (two, [(1, 2)]), (most, [(1, None)]), (least, [(None, 1)]), (tables, [3])):
            self.assertEqual(makes.made(row), 0)
        deed = (((None, 1), (1, 1)), (1, 1))
        self.refused(NoDeed, two.done, 0, 0, 1, deed)
        self.refused(NoDeed, one.done, 0, 0, 1, deed)
        self.refused(NoDeed, tables.done, 0, 0, 1, "up")
        self.refused(NoSign, one.first, 0, 0, (1, 0))
        self.refused(NoSign, tables.first, 0, 0, "rest")
        self.assertEqual([makes.done(0, 0, 1, deed) for makes in (most, least)], [1, 1])

    def test_three_hundred_values_and_more(self):
        for plain in plains():
            makes = Makes(plain.way())
            _, value, _ = asker(plain)
            self.assertEqual(makes.made([value] * 300), 0)
            for many in (301, 302, 320):
                self.refused(TooGreat, makes.made, [value] * many)
            self.assertEqual(makes.made([value] * 150), 1)
            self.assertEqual(makes.made([value]), 2)
            self.assertEqual(makes.made([]), 3)
            for make, other in ((0, 2), (2, 0), (0, 0), (0, 1), (1, 0)):
                for i in (0, makes.many(make)):
                    self.refused(TooGreat, makes.put_in, make, i, other)
            self.assertEqual([makes.put_in(1, 75, 1), makes.put_in(0, 300, 3), makes.put_in(3, 0, 0)], [4, 5, 6])
            self.assertEqual([makes.many(make) for make in range(7)], [300, 150, 1, 0, 300, 300, 300])
            for make in (4, 5, 6):
                self.refused(TooGreat, makes.put_in, make, 9, 2)
            self.assertEqual(makes.turned(4, 0, 300), 7)
            self.assertEqual(makes.changed(4, 299, value), 8)


class TwoDueTest(RefusalCase):
    def test_a_make_ahead_of_all_else(self):
        for plain in plains():
            makes, rows = self.some_makes(plain)
            deed, value, sign = asker(plain)
            for make in (-1, 5):
                for i, j in ((-1, 0), (2, 1), (0, 10 ** 60)):
                    for asked in (makes.turned, makes.cut, makes.asked):
                        self.refused(NoMake, asked, make, i, j)
                    for thing in (deed, Unasked()):
                        self.refused(NoMake, makes.done, make, i, j, thing)
                    for thing in (value, Unasked()):
                        self.refused(NoMake, makes.changed, make, -1, thing)
                    for thing in (sign, Unasked()):
                        self.refused(NoMake, makes.first, make, -1, thing)
                self.refused(NoMake, makes.done, make, 0, 0, Unasked())
                self.refused(NoMake, makes.changed, make, 0, Unasked())
                self.refused(NoMake, makes.first, make, 0, Unasked())
                # The second one, too; also where the place is none, and with 300 values there already.
                self.refused(NoMake, makes.put_in, make, -1, 0)
                self.refused(NoMake, makes.put_in, 0, -1, make)
                self.refused(NoMake, makes.put_in, 0, 4, make)
                self.refused(NoMake, makes.put_in, make, 0, make)
                self.refused(NoMake, makes.put_in, 2, 0, make)
                self.refused(NoMake, makes.put_in, 2, 301, make)
                self.refused(NoMake, makes.put_in, make, 0, 2)
            self.stayed(plain, makes, rows)

    def test_places_ahead_of_deeds_values_signs_and_size(self):
        for plain in plains():
            makes, rows = self.some_makes(plain)
            for thing in (None, "neither", Unasked(), [], -1):
                for i, j in ((-1, 0), (2, 1), (0, 4), (4, 4)):
                    self.refused(NoStretch, makes.done, 0, i, j, thing)
                for i in (-1, 3, 4):
                    self.refused(NoStretch, makes.changed, 0, i, thing)
                self.refused(NoStretch, makes.changed, 1, 0, thing)
                for i in (-1, 4):
                    self.refused(NoStretch, makes.first, 0, i, thing)
                self.refused(NoStretch, makes.first, 1, 1, thing)
            for i in (-1, 301):
                self.refused(NoStretch, makes.put_in, 2, i, 2)
                self.refused(NoStretch, makes.put_in, 2, i, 0)
            for i in (-1, 152):
                self.refused(NoStretch, makes.put_in, 4, i, 3)
            self.stayed(plain, makes, rows)

    def test_values_ahead_of_size(self):
        for plain in plains():
            makes, rows = self.some_makes(plain)
            _, value, _ = asker(plain)
            for thing in (True, "neither", Unasked(), [], -1):
                for place in (0, 150, 299, 300, 301):
                    row = [value] * 302
                    row[place] = thing
                    self.refused(NoValue, makes.made, row)
                    self.assertIs(row[place], thing)
            self.stayed(plain, makes, rows)


if __name__ == "__main__":
    unittest.main()
