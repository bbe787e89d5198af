import copy
import random
import unittest

from stretchdeeds.trees import (
    done_all, parted_at, put_together, row_of, size_of, tree_of, turned_all, walk_of, whole_of,
)
from stretchdeeds.ways import Ways
from stretchdeeds.wides import Sums
from tests.algsamples import maps
from tests.plainways import PlainAlgebra, PlainWide, algebras, depth_of, plains, wides

SIZES = [0, 1, 2, 3, 4, 5, 7, 8, 12, 21, 40]
# The least numbers of values of a walk of depth 0, 1, 2 ..
LEAST = [1, 2, 3, 5, 8, 13, 21, 34, 55, 89, 144, 233, 377, 610]


def drawn_row(chance, plain, many):
    return [plain.value(chance) for _ in range(many)]


class TreeCase(unittest.TestCase):
    def keeps(self, plain, way, tree, row):
        """The tree tells this row, and its walk is one of this row; the walk's depth is told."""
        told = row_of(way, tree)
        self.assertIs(type(told), list)
        self.assertEqual(told, row, plain)
        self.assertEqual(size_of(tree), len(row))
        self.assertEqual(whole_of(way, tree), plain.whole(row), plain)
        return depth_of(self, plain, walk_of(way, tree), row)


class MadeTest(TreeCase):
    def test_of_each_size(self):
        chance = random.Random(91)
        for plain in plains():
            way = plain.way()
            for many in list(range(35)) + [63, 64, 65, 127, 200, 299, 300]:
                row = drawn_row(chance, plain, many)
                kept = copy.deepcopy(row)
                self.keeps(plain, way, tree_of(way, row), kept)
                self.assertEqual(row, kept)

    def test_of_every_size(self):
        chance = random.Random(92)
        for plain in (PlainAlgebra(maps(2)), PlainWide("sums", 1)):
            way = plain.way()
            for many in range(320):
                row = drawn_row(chance, plain, many)
                depth = self.keeps(plain, way, tree_of(way, row), row)
                self.assertLessEqual(LEAST[depth], max(1, many))

    def test_none_one_and_two(self):
        way = Ways(maps(2))
        self.assertEqual([row_of(way, tree_of(way, [])), size_of(tree_of(way, []))], [[], 0])
        self.assertEqual([whole_of(way, tree_of(way, [])), walk_of(way, tree_of(way, []))], [0, ()])
        self.assertEqual(walk_of(way, tree_of(way, [3])), (3,))
        self.assertEqual(walk_of(way, tree_of(way, [1, 3])), (2, (1,), (3,)))
        wide = Sums(2)
        self.assertEqual(whole_of(wide, tree_of(wide, [])), (0, 0))
        self.assertEqual(walk_of(wide, tree_of(wide, [(1, 2)])), ((1, 2),))
        self.assertEqual(walk_of(wide, tree_of(wide, [(1, 2), (3, 4)])), ((4, 6), ((1, 2),), ((3, 4),)))

    def test_lists_handed_in_and_told(self):
        chance = random.Random(93)
        for plain in plains():
            way = plain.way()
            for many in (0, 1, 2, 9):
                row = drawn_row(chance, plain, many)
                kept = list(row)
                tree = tree_of(way, row)
                row.append("spoiled")
                row[0] = "spoiled"
                told = row_of(way, tree)
                told.append("spoiled")
                told.reverse()
                self.keeps(plain, way, tree, kept)
                self.assertIsNot(row_of(way, tree), row_of(way, tree))


class TogetherTest(TreeCase):
    def test_of_any_two_sizes(self):
        chance = random.Random(94)
        for plain in plains():
            way = plain.way()
            made = [(tree_of(way, row), row) for row in [drawn_row(chance, plain, many) for many in SIZES]]
            for one, one_row in made:
                for other, other_row in made:
                    self.keeps(plain, way, put_together(way, one, other), one_row + other_row)
            for tree, row in made:
                self.keeps(plain, way, tree, row)

    def test_great_and_small(self):
        chance = random.Random(95)
        for plain in (PlainAlgebra(maps(6)), PlainWide("mosts", 2)):
            way = plain.way()
            sizes = [1, 2, 3, 5, 6, 9, 17, 31, 32, 33, 64, 100, 128, 150, 255, 299, 300]
            made = [(tree_of(way, row), row) for row in [drawn_row(chance, plain, many) for many in sizes]]
            for one, one_row in made:
                for other, other_row in made[:8] + made[-2:]:
                    self.keeps(plain, way, put_together(way, one, other), one_row + other_row)
                    self.keeps(plain, way, put_together(way, other, one), other_row + one_row)

    def test_with_itself(self):
        chance = random.Random(96)
        for plain in plains():
            way = plain.way()
            for many in (0, 1, 2, 5, 60):
                row = drawn_row(chance, plain, many)
                tree = tree_of(way, row)
                twice = put_together(way, tree, tree)
                self.keeps(plain, way, put_together(way, twice, tree), row * 3)
                self.keeps(plain, way, twice, row * 2)
                self.keeps(plain, way, tree, row)

    def test_one_by_one(self):
        for plain in (PlainAlgebra(maps(2)), PlainWide("leasts", 1)):
            chance, way = random.Random(97), plain.way()
            from_left, from_right, left_row, right_row = tree_of(way, []), tree_of(way, []), [], []
            for many in range(1, 301):
                value = plain.value(chance)
                from_left, left_row = put_together(way, from_left, tree_of(way, [value])), left_row + [value]
                from_right, right_row = put_together(way, tree_of(way, [value]), from_right), [value] + right_row
                if many < 70 or many > 290:
                    self.keeps(plain, way, from_left, left_row)
                    depth = self.keeps(plain, way, from_right, right_row)
                    self.assertLessEqual(LEAST[depth], many)


def thin(chance, plain, way, deep, heavy):
    """A tree as deep as can be for its number of values, the deeper part on the side told; its row beside it."""
    pairs = [(tree_of(way, row), row) for row in (drawn_row(chance, plain, 1), drawn_row(chance, plain, 2))]
    for _ in range(2, deep + 1):
        small, great = pairs[-2], pairs[-1]
        side = heavy if heavy != "either" else chance.choice(["left", "right"])
        one, other = (great, small) if side == "left" else (small, great)
        pairs.append((put_together(way, one[0], other[0]), one[1] + other[1]))
    return pairs[deep]


class ThinTest(TreeCase):
    def test_they_are_as_deep_as_can_be(self):
        for heavy in ("left", "right", "either"):
            chance, plain = random.Random(98), PlainAlgebra(maps(2))
            way = plain.way()
            for deep in range(0, 11):
                tree, row = thin(chance, plain, way, deep, heavy)
                self.assertEqual(len(row), LEAST[deep])
                self.assertEqual(self.keeps(plain, way, tree, row), deep)

    def test_parted_and_put_together(self):
        for plain in (PlainAlgebra(maps(6)), PlainWide("sums", 2)):
            chance, way = random.Random(99), plain.way()
            for heavy in ("left", "right", "either"):
                for deep in (2, 3, 4, 5, 6, 7):
                    tree, row = thin(chance, plain, way, deep, heavy)
                    for place in range(len(row) + 1):
                        one, other = parted_at(way, tree, place)
                        self.keeps(plain, way, one, row[:place])
                        self.keeps(plain, way, other, row[place:])
                        self.keeps(plain, way, put_together(way, other, one), row[place:] + row[:place])
                    self.keeps(plain, way, tree, row)

    def test_any_two_of_them(self):
        plain = PlainAlgebra(maps(2))
        chance, way = random.Random(100), plain.way()
        made = [thin(chance, plain, way, deep, heavy) for deep in range(9) for heavy in ("left", "right", "either")]
        for one, one_row in made:
            for other, other_row in made:
                both = put_together(way, one, other)
                depth = self.keeps(plain, way, both, one_row + other_row)
                self.assertLessEqual(LEAST[depth], len(one_row + other_row))
                turned = put_together(way, turned_all(way, one), turned_all(way, other))
                self.keeps(plain, way, turned, one_row[::-1] + other_row[::-1])


class PartedTest(TreeCase):
    def test_at_each_place(self):
        chance = random.Random(101)
        for plain in plains():
            way = plain.way()
            for many in (0, 1, 2, 3, 6, 19):
                row = drawn_row(chance, plain, many)
                tree = tree_of(way, row)
                for place in range(many + 1):
                    parts = parted_at(way, tree, place)
                    self.assertIs(type(parts), tuple)
                    self.assertEqual(len(parts), 2)
                    self.keeps(plain, way, parts[0], row[:place])
                    self.keeps(plain, way, parts[1], row[place:])
                    self.keeps(plain, way, put_together(way, parts[0], parts[1]), row)
                self.keeps(plain, way, tree, row)

    def test_three_hundred_at_each_place(self):
        chance = random.Random(102)
        for plain in (PlainAlgebra(maps(2)), PlainWide("leasts", 1)):
            way = plain.way()
            row = drawn_row(chance, plain, 300)
            tree = tree_of(way, row)
            for place in range(301):
                one, other = parted_at(way, tree, place)
                self.keeps(plain, way, one, row[:place])
                self.keeps(plain, way, other, row[place:])


class DoneTest(TreeCase):
    def test_a_wait_done_to_all(self):
        chance = random.Random(103)
        for plain in plains():
            if not plain.deeds:
                continue
            way = plain.way()
            for many in (0, 1, 2, 3, 10, 33):
                row = drawn_row(chance, plain, many)
                tree = tree_of(way, row)
                deed, other = plain.deed(chance), plain.deed(chance)
                once = done_all(way, tree, way.wait_of(deed))
                self.keeps(plain, way, once, plain.done(deed, row))
                twice = done_all(way, once, way.wait_of(other))
                self.keeps(plain, way, twice, plain.done(other, plain.done(deed, row)))
                both = done_all(way, tree, way.behind(way.wait_of(deed), way.wait_of(other)))
                self.keeps(plain, way, both, plain.done(other, plain.done(deed, row)))
                self.keeps(plain, way, once, plain.done(deed, row))
                self.keeps(plain, way, tree, row)

    def test_the_idle_wait(self):
        chance = random.Random(104)
        for plain in plains():
            way = plain.way()
            for many in (0, 1, 2, 12):
                row = drawn_row(chance, plain, many)
                tree = tree_of(way, row)
                self.keeps(plain, way, done_all(way, tree, way.idle()), row)
                if plain.deeds:
                    deed = plain.deed(chance)
                    ahead = done_all(way, done_all(way, tree, way.idle()), way.wait_of(deed))
                    behind = done_all(way, done_all(way, tree, way.wait_of(deed)), way.idle())
                    self.keeps(plain, way, ahead, plain.done(deed, row))
                    self.keeps(plain, way, behind, plain.done(deed, row))

    def test_turned(self):
        chance = random.Random(105)
        for plain in plains():
            way = plain.way()
            for many in (0, 1, 2, 3, 7, 26):
                row = drawn_row(chance, plain, many)
                tree = tree_of(way, row)
                turned = turned_all(way, tree)
                self.keeps(plain, way, turned, row[::-1])
                self.keeps(plain, way, turned_all(way, turned), row)
                self.keeps(plain, way, put_together(way, tree, turned), row + row[::-1])
                for place in range(many + 1):
                    one, other = parted_at(way, turned, place)
                    self.keeps(plain, way, one, row[::-1][:place])
                    self.keeps(plain, way, other, row[::-1][place:])
                self.keeps(plain, way, tree, row)

    def test_done_and_turned_parts_within_a_tree_that_is_done_and_turned(self):
        chance = random.Random(106)
        for plain in plains():
            if not plain.deeds:
                continue
            way = plain.way()
            for _ in range(12):
                row = drawn_row(chance, plain, chance.randint(2, 30))
                place = chance.randint(0, len(row))
                one, other = parted_at(way, tree_of(way, row), place)
                deeds = [plain.deed(chance) for _ in range(3)]
                one = turned_all(way, done_all(way, one, way.wait_of(deeds[0])))
                other = done_all(way, turned_all(way, other), way.wait_of(deeds[1]))
                tree = turned_all(way, done_all(way, put_together(way, one, other), way.wait_of(deeds[2])))
                came = plain.done(deeds[0], row[:place])[::-1] + plain.done(deeds[1], row[place:])[::-1]
                came = plain.done(deeds[2], came)[::-1]
                self.keeps(plain, way, tree, came)
                for k in range(len(row) + 1):
                    parts = parted_at(way, tree, k)
                    self.keeps(plain, way, parts[0], came[:k])
                    self.keeps(plain, way, parts[1], came[k:])


class RunsTest(TreeCase):
    def step(self, chance, plain, way, pool):
        tree, row = chance.choice(pool)
        kind = chance.choice(["together", "part", "part", "done", "turned", "turned"])
        if kind == "together":
            other, behind = chance.choice(pool)
            return [(put_together(way, tree, other), row + behind)] if len(row + behind) <= 300 else []
        if kind == "part":
            place = chance.randint(0, len(row))
            one, other = parted_at(way, tree, place)
            return [(one, row[:place]), (other, row[place:])]
        if kind == "turned":
            return [(turned_all(way, tree), row[::-1])]
        if not plain.deeds:
            return []
        deeds = [plain.deed(chance) for _ in range(chance.randint(1, 2))]
        wait = way.idle()
        for deed in deeds:
            wait, row = way.behind(wait, way.wait_of(deed)), plain.done(deed, row)
        return [(done_all(way, tree, wait), row)]

    def run_of(self, plain, seed, steps, most):
        chance, way = random.Random(seed), plain.way()
        pool = []
        for many in (0, 1, 2, 3, most // 2, most):
            row = drawn_row(chance, plain, many)
            pool.append((tree_of(way, row), row))
        for _ in range(steps):
            for tree, row in self.step(chance, plain, way, pool):
                self.keeps(plain, way, tree, row)
                pool.append((tree, row))
            tree, row = chance.choice(pool)
            self.keeps(plain, way, tree, row)
        for tree, row in pool:
            self.keeps(plain, way, tree, row)
        by_row = {}
        for tree, row in pool:
            self.assertEqual(by_row.setdefault(tuple(row), whole_of(way, tree)), whole_of(way, tree))

    def test_drawn_runs(self):
        for plain in plains(great=True):
            self.run_of(plain, 107, 60, 12)

    def test_great_ones(self):
        for plain in algebras()[-5:] + wides()[1::3]:
            self.run_of(plain, 108, 25, 300)


if __name__ == "__main__":
    unittest.main()
