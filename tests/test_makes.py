import copy
import random
import unittest

from stretchdeeds.makes import Makes
from stretchdeeds.ways import Ways
from stretchdeeds.wides import Leasts, Mosts, Sums
from tests.algsamples import maps, sums
from tests.plainways import EIGHTY, PlainAlgebra, PlainWide, algebras, depth_of, first_place, plains, wides


class MakesCase(unittest.TestCase):
    def answers(self, plain, makes, make, row, chance, some=4):
        """All that is asked of a make, held against its plain row; of stretches and signs some."""
        self.assertEqual(makes.many(make), len(row))
        told = makes.listed(make)
        self.assertIs(type(told), list)
        self.assertEqual(told, row)
        depth_of(self, plain, makes.walk(make), row)
        places = [(0, 0), (0, len(row)), (len(row), len(row)), (0, min(1, len(row))), (max(0, len(row) - 1), len(row))]
        places += [tuple(sorted(chance.randint(0, len(row)) for _ in range(2))) for _ in range(some)]
        for i, j in places:
            self.assertEqual(makes.asked(make, i, j), plain.whole(row[i:j]), (plain, row, i, j))
        if plain.signs:
            for i in [0, len(row)] + [chance.randint(0, len(row)) for _ in range(some)]:
                sign = plain.sign(chance)
                self.assertEqual(makes.first(make, i, sign), first_place(plain, row, i, sign), (plain, row, i, sign))


def stretches(many):
    return [(i, j) for j in range(many + 1) for i in range(j + 1)]


class EachKindTest(MakesCase):
    def test_of_a_list(self):
        chance = random.Random(111)
        for plain in plains(great=True):
            makes = Makes(plain.way())
            for number, many in enumerate([0, 1, 2, 3, 0, 17, 300]):
                row = [plain.value(chance) for _ in range(many)]
                kept = list(row)
                told = makes.made(row)
                self.assertEqual(told, number)
                self.assertIs(type(told), int)
                self.assertEqual(row, kept)
                self.answers(plain, makes, number, kept, chance)

    def each_make(self, plain, chance, many):
        row = [plain.value(chance) for _ in range(many)]
        makes = Makes(plain.way())
        self.assertEqual(makes.made(row), 0)
        return makes, row

    def test_a_deed_done_to_each_stretch(self):
        chance = random.Random(112)
        for plain in plains():
            if not plain.deeds:
                continue
            for many in (0, 1, 2, 5):
                makes, row = self.each_make(plain, chance, many)
                for number, (i, j) in enumerate(stretches(many), start=1):
                    deed = plain.deed(chance)
                    self.assertEqual(makes.done(0, i, j, deed), number)
                    self.answers(plain, makes, number, row[:i] + plain.done(deed, row[i:j]) + row[j:], chance)
                self.answers(plain, makes, 0, row, chance)

    def test_each_stretch_turned(self):
        chance = random.Random(113)
        for plain in plains():
            for many in (0, 1, 2, 5):
                makes, row = self.each_make(plain, chance, many)
                for number, (i, j) in enumerate(stretches(many), start=1):
                    self.assertEqual(makes.turned(0, i, j), number)
                    self.answers(plain, makes, number, row[:i] + row[i:j][::-1] + row[j:], chance)
                self.answers(plain, makes, 0, row, chance)

    def test_each_value_changed(self):
        chance = random.Random(114)
        for plain in plains(great=True):
            for many in (1, 2, 7):
                makes, row = self.each_make(plain, chance, many)
                for i in range(many):
                    value = plain.value(chance)
                    self.assertEqual(makes.changed(0, i, value), i + 1)
                    self.answers(plain, makes, i + 1, row[:i] + [value] + row[i + 1:], chance)
                self.answers(plain, makes, 0, row, chance)

    def test_a_make_put_in_ahead_of_each_place(self):
        chance = random.Random(115)
        for plain in plains():
            for many in (0, 1, 5):
                for second in (0, 1, 4, 30):
                    makes, row = self.each_make(plain, chance, many)
                    other = [plain.value(chance) for _ in range(second)]
                    self.assertEqual(makes.made(other), 1)
                    for i in range(many + 1):
                        self.assertEqual(makes.put_in(0, i, 1), i + 2)
                        self.answers(plain, makes, i + 2, row[:i] + other + row[i:], chance, 2)
                    self.answers(plain, makes, 0, row, chance, 2)
                    self.answers(plain, makes, 1, other, chance, 2)

    def test_a_make_put_into_itself(self):
        chance = random.Random(116)
        for plain in plains():
            for many in (0, 1, 2, 6, 150):
                makes, row = self.each_make(plain, chance, many)
                for number, i in enumerate(sorted({0, many // 2, many}), start=1):
                    self.assertEqual(makes.put_in(0, i, 0), number)
                    self.answers(plain, makes, number, row[:i] + row + row[i:], chance, 2)
                self.answers(plain, makes, 0, row, chance, 2)

    def test_each_stretch_cut_out(self):
        chance = random.Random(117)
        for plain in plains():
            for many in (0, 1, 2, 5):
                makes, row = self.each_make(plain, chance, many)
                for k, (i, j) in enumerate(stretches(many)):
                    told = makes.cut(0, i, j)
                    self.assertIs(type(told), tuple)
                    self.assertEqual(told, (2 * k + 1, 2 * k + 2))
                    self.answers(plain, makes, told[0], row[i:j], chance)
                    self.answers(plain, makes, told[1], row[:i] + row[j:], chance)
                self.answers(plain, makes, 0, row, chance)

    def test_numbers_as_they_are_made(self):
        makes = Makes(Ways(sums(5, 5)))
        told = [makes.made([1, 2, 3]), makes.done(0, 0, 2, "up"), makes.turned(0, 0, 3), makes.changed(2, 0, 4)]
        told += [makes.put_in(3, 1, 0), makes.cut(4, 1, 2), makes.made([]), makes.cut(7, 0, 0)]
        self.assertEqual(told, [0, 1, 2, 3, 4, (5, 6), 7, (8, 9)])
        rows = [[1, 2, 3], [2, 3, 3], [3, 2, 1], [4, 2, 1], [4, 1, 2, 3, 2, 1], [1], [4, 2, 3, 2, 1], [], [], []]
        self.assertEqual([makes.listed(make) for make in range(10)], rows)


class AskedTest(MakesCase):
    def test_each_stretch(self):
        chance = random.Random(118)
        for plain in plains(great=True):
            for many in (0, 1, 2, 9):
                row = [plain.value(chance) for _ in range(many)]
                makes = Makes(plain.way())
                make = makes.made(row)
                for i, j in stretches(many):
                    self.assertEqual(makes.asked(make, i, j), plain.whole(row[i:j]))

    def test_first_from_each_place(self):
        chance = random.Random(119)
        found = {"place": 0, "none": 0}
        for plain in plains():
            if not plain.signs:
                continue
            for many in (0, 1, 2, 12):
                row = [plain.value(chance) for _ in range(many)]
                makes = Makes(plain.way())
                make = makes.made(row)
                for i in range(many + 1):
                    for _ in range(4):
                        sign = plain.sign(chance)
                        told = makes.first(make, i, sign)
                        self.assertEqual(told, first_place(plain, row, i, sign), (plain, row, i, sign))
                        self.assertTrue(told is None or type(told) is int)
                        found["none" if told is None else "place"] += 1
                self.assertIsNone(makes.first(make, many, sign))
        self.assertGreater(min(found.values()), 100, found)

    def test_first_of_a_sign_that_comes_and_goes(self):
        makes = Makes(Ways(sums(4, 4)))
        make = makes.made([1, 1, 2, 0, 0, 3, 1])
        self.assertEqual([makes.first(make, i, "none") for i in range(8)], [2, None, None, 3, 4, 6, None, None])
        wide = Makes(Sums(1))
        make = wide.made([(3,), (-5,), (4,), (9,), (-20,)])
        told = [wide.first(make, i, (0, number)) for number in (3, 4, 11, 12) for i in (0, 1, 5)]
        self.assertEqual(told, [0, 3, None, 3, 3, None, 3, None, None, None, None, None])

    def test_first_of_none_in_a_value(self):
        for made_by, told in ((Mosts, [1, 1, 2]), (Leasts, [1, 1, 2])):
            makes = Makes(made_by(2))
            make = makes.made([(None, 9), (4, None), (7, 0)])
            self.assertEqual([makes.first(make, i, (0, 4)) for i in range(3)], told)
        most, least = Makes(Mosts(1)), Makes(Leasts(1))
        row = [(None,), (2,), (6,)]
        self.assertEqual([most.first(most.made(row), 0, (0, number)) for number in (2, 3, 6, 7)], [1, 2, 2, None])
        self.assertEqual([least.first(least.made(row), 0, (0, number)) for number in (2, 3, 6, 7)], [1, None, None, None])

    def test_first_at_the_very_end_of_three_hundred(self):
        makes = Makes(Sums(1))
        make = makes.made([(1,)] * 300)
        told = [makes.first(make, i, (0, number)) for i, number in ((0, 300), (0, 301), (299, 1), (300, 1), (150, 150))]
        self.assertEqual(told, [299, None, 299, None, 299])

    def test_order_counts(self):
        # 1 sends both points to the first one, 2 both to the second one: the last of them counts.
        makes = Makes(Ways(maps(2)))
        make = makes.made([1, 2, 0, 3])
        turned = makes.turned(make, 0, 4)
        self.assertEqual([makes.asked(make, 0, 2), makes.asked(turned, 2, 4)], [2, 1])
        self.assertEqual([makes.asked(make, 0, 4), makes.asked(turned, 0, 4)], [1, 1])
        self.assertEqual(makes.asked(makes.turned(turned, 1, 3), 0, 4), 1)


class OwnTest(MakesCase):
    def test_lists_handed_in_that_are_changed_afterwards(self):
        chance = random.Random(120)
        for plain in plains():
            makes = Makes(plain.way())
            for many in (0, 1, 8):
                row = [plain.value(chance) for _ in range(many)]
                kept = list(row)
                make = makes.made(row)
                row.append(plain.value(chance))
                row[0] = "spoiled"
                self.answers(plain, makes, make, kept, chance)

    def test_lists_told_that_are_changed(self):
        chance = random.Random(121)
        for plain in plains():
            makes = Makes(plain.way())
            for many in (0, 1, 8):
                row = [plain.value(chance) for _ in range(many)]
                make = makes.made(row)
                for _ in range(2):
                    told = makes.listed(make)
                    told.append("spoiled")
                    told.reverse()
                    self.answers(plain, makes, make, row, chance)

    def test_an_algebra_that_is_changed_afterwards(self):
        algebra = sums(5, 5)
        kept = copy.deepcopy(algebra)
        makes = Makes(Ways(algebra))
        make = makes.made([1, 2, 4])
        algebra[2][1][2] = 0
        algebra[4].clear()
        algebra[5][0][1].append(3)
        self.answers(PlainAlgebra(kept), makes, make, [1, 2, 4], random.Random(122))
        self.assertEqual(makes.listed(makes.done(make, 0, 3, "up")), [2, 3, 0])

    def test_two_sets_by_one_way(self):
        way = Ways(sums(5, 5))
        one, other = Makes(way), Makes(way)
        self.assertEqual([one.made([1]), one.made([2]), other.made([3])], [0, 1, 0])
        self.assertEqual(other.done(0, 0, 1, "up"), 1)
        self.assertEqual([one.listed(0), one.listed(1), other.listed(0), other.listed(1)], [[1], [2], [3], [4]])


class RunsTest(MakesCase):
    def step(self, chance, plain, makes, rows):
        """One new make, or two by a cut; the plain rows that they are to have, beside the numbers that were told."""
        make = chance.randrange(len(rows))
        row = rows[make]
        i, j = sorted(chance.randint(0, len(row)) for _ in range(2))
        kind = chance.choice(["made", "done", "done", "done", "turned", "turned", "changed", "put", "put", "cut"])
        if kind == "done" and plain.deeds:
            deed = plain.deed(chance)
            return [row[:i] + plain.done(deed, row[i:j]) + row[j:]], [makes.done(make, i, j, deed)]
        if kind == "turned":
            return [row[:i] + row[i:j][::-1] + row[j:]], [makes.turned(make, i, j)]
        if kind == "changed" and i < len(row):
            value = plain.value(chance)
            return [row[:i] + [value] + row[i + 1:]], [makes.changed(make, i, value)]
        if kind == "put":
            other = chance.randrange(len(rows))
            if len(row) + len(rows[other]) <= 300:
                return [row[:i] + rows[other] + row[i:]], [makes.put_in(make, i, other)]
        if kind == "cut":
            return [row[i:j], row[:i] + row[j:]], list(makes.cut(make, i, j))
        fresh = [plain.value(chance) for _ in range(chance.randint(0, 6))]
        return [fresh], [makes.made(fresh)]

    def run_of(self, plain, seed, steps, most, elder):
        chance = random.Random(seed)
        makes = Makes(plain.way())
        rows = [[plain.value(chance) for _ in range(most)]]
        self.assertEqual(makes.made(list(rows[0])), 0)
        while len(rows) < steps:
            came, numbers = self.step(chance, plain, makes, rows)
            self.assertEqual(numbers, list(range(len(rows), len(rows) + len(came))))
            rows += came
            for make in numbers + [chance.randrange(len(rows)) for _ in range(elder)]:
                self.answers(plain, makes, make, rows[make], chance, 1)
        for make, row in enumerate(rows):
            self.answers(plain, makes, make, row, chance, 1)
        return makes, rows

    def test_short_rows(self):
        for plain in plains(great=True):
            self.run_of(plain, 123, 60, 5, 2)

    def test_each_elder_make_behind_each_step(self):
        for plain in (PlainAlgebra(maps(2)), PlainWide("sums", 2), PlainWide("mosts", 1)):
            chance = random.Random(124)
            makes = Makes(plain.way())
            rows = [[plain.value(chance) for _ in range(4)]]
            makes.made(list(rows[0]))
            while len(rows) < 30:
                rows += self.step(chance, plain, makes, rows)[0]
                for make, row in enumerate(rows):
                    self.answers(plain, makes, make, row, chance, 1)

    def test_three_hundred_makes(self):
        for plain in algebras()[-4:] + wides()[2::3]:
            self.run_of(plain, 125, 300, 30, 0)

    def test_three_hundred_values(self):
        for plain in algebras()[5:7] + wides()[::4]:
            self.run_of(plain, 126, 25, 300, 0)

    def test_more_than_three_hundred_makes(self):
        # The bound is told, but nothing is refused for it.
        makes = Makes(Ways(sums(5, 5)))
        self.assertEqual([makes.made([make % 5]) for make in range(320)], list(range(320)))
        self.assertEqual(makes.listed(319), [4])

    def test_makes_with_the_same_row_answer_alike(self):
        for plain in plains():
            makes, rows = self.run_of(plain, 127, 40, 3, 0)
            by_row = {}
            for make, row in enumerate(rows):
                by_row.setdefault(tuple(row), []).append(make)
            # What led there is another thing each time: turned twice, put together of single ones, changed at a place.
            for row, same in list(by_row.items()):
                many = len(row)
                same.append(makes.turned(makes.turned(same[0], 0, many), 0, many))
                grown = makes.made([])
                for value in reversed(row):
                    grown = makes.put_in(grown, 0, makes.made([value]))
                same.append(grown)
                if many > 0:
                    spoiled = makes.changed(same[0], many // 2, row[0])
                    same.append(makes.changed(spoiled, many // 2, row[many // 2]))
                chance = random.Random(128)
                signs = [plain.sign(chance) for _ in range(3)] if plain.signs else []
                told = []
                for make in same:
                    answers = [makes.many(make), makes.listed(make)]
                    answers += [makes.asked(make, i, j) for i, j in stretches(many)[:40]]
                    answers += [makes.first(make, i, sign) for i in range(many + 1) for sign in signs]
                    told.append(answers)
                self.assertEqual(told, told[:1] * len(told), plain)

    def test_great_numbers(self):
        plain = PlainWide("sums", 3, great=True)
        chance = random.Random(129)
        makes = Makes(plain.way())
        row = [tuple(chance.randint(-EIGHTY, EIGHTY) for _ in range(3)) for _ in range(20)]
        make = makes.made(row)
        for _ in range(30):
            i, j = sorted(chance.randint(0, 20) for _ in range(2))
            deed = tuple(tuple(chance.randint(-(10 ** 60), 10 ** 60) for _ in range(3)) for _ in range(4))
            deed = (deed[:3], deed[3])
            make, row = makes.done(make, i, j, deed), row[:i] + plain.done(deed, row[i:j]) + row[j:]
            self.answers(plain, makes, make, row, chance, 1)
        # A value that was told is handed in again.
        other = makes.made([makes.asked(make, 0, 20)])
        self.assertEqual(makes.listed(other), [plain.whole(row)])


if __name__ == "__main__":
    unittest.main()
