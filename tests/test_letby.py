import copy
import random
import unittest

from stretchdeeds.algebras import what_fails
from tests.algsamples import all_faults, beside, first, greatest, last, let_by, maps, plain_fault, some_algebras, sums


def with_join(algebra, a, b, value):
    bent = copy.deepcopy(algebra)
    bent[2][a][b] = value
    return bent


def with_deeds(algebra, deeds):
    return algebra[:4] + (deeds, algebra[5])


KEEP = [[0, 1, 2], [0, 1, 2]]
ADD = (3, 2, [[0, 1, 2], [1, 2, 0], [2, 0, 1]], 0, [], [])
# Of nothing, at count 0, this makes 1.
FILLS = [[1, 1, 1], [1, 1, 1]]
# At count 1 this makes 1 more, at count 0 nothing more: so by threes it goes wrong.
LIFTS = [[0, 1, 2], [1, 2, 0]]


class LetByTest(unittest.TestCase):
    def test_none_of_those_that_are_let_by(self):
        for algebra in let_by():
            kept = copy.deepcopy(algebra)
            self.assertIsNone(what_fails(algebra), algebra)
            self.assertEqual(algebra, kept)

    def test_none_of_each_sort(self):
        for algebra in (sums(8, 4), greatest(8, 6), last(8), first(8), maps(2), beside(sums(2, 2), maps(2))):
            self.assertIsNone(what_fails(algebra))
            self.assertIsNone(what_fails(with_deeds(algebra, [])))

    def test_signs_and_names_change_nothing(self):
        algebra = maps(2)
        self.assertIsNone(what_fails(algebra[:5] + ([("swap", []), ("rest", [0, 1, 2, 3])],)))
        bent = with_join(algebra, 0, 1, 0)
        self.assertEqual(what_fails(bent), what_fails(bent[:5] + ([],)))


class FaultTest(unittest.TestCase):
    def fails(self, algebra, told):
        kept = copy.deepcopy(algebra)
        self.assertEqual(what_fails(algebra), told)
        self.assertIsInstance(what_fails(algebra), tuple)
        self.assertEqual(plain_fault(algebra), told)
        self.assertEqual(algebra, kept)

    def test_nothing(self):
        self.fails(with_join(ADD, 0, 1, 0), ("nothing", 1))
        self.fails(with_join(ADD, 1, 0, 2), ("nothing", 1))
        self.fails(with_join(ADD, 0, 0, 1), ("nothing", 0))
        self.fails(with_join(ADD, 2, 0, 0), ("nothing", 2))
        self.fails(ADD[:3] + (1, [], []), ("nothing", 0))
        self.fails(with_join(with_join(ADD, 2, 0, 1), 0, 1, 1), ("nothing", 2))
        self.fails(with_join(with_join(ADD, 2, 0, 1), 0, 1, 2), ("nothing", 1))
        # The nothing of the last one is not the least value.
        self.fails(with_join(first(4), 3, 1, 0), ("nothing", 1))
        self.fails(with_join(first(4), 1, 3, 0), ("nothing", 1))

    def test_parting(self):
        self.fails(with_join(ADD, 1, 1, 1), ("parting", 1, 1, 2))
        self.fails(with_join(ADD, 2, 2, 2), ("parting", 1, 1, 2))
        self.fails((3, 1, [[0, 1, 2], [1, 0, 1], [2, 1, 0]], 0, [], []), ("parting", 1, 1, 2))
        self.fails((3, 1, [[0, 1, 2], [1, 2, 2], [2, 1, 2]], 0, [], []), ("parting", 1, 1, 1))

    def test_empty(self):
        self.fails(with_deeds(ADD, [("fill", FILLS)]), ("empty", "fill"))
        self.fails(with_deeds(ADD, [("keep", KEEP), ("fill", FILLS)]), ("empty", "fill"))
        self.fails(with_deeds(first(3), [("fill", [[0, 0, 0]])]), ("empty", "fill"))
        # At count 0 it makes nothing of nothing, elsewhere it doesn't, and this alone is no fault of this sort.
        self.fails(with_deeds(ADD, [("lift", LIFTS)]), ("doing", "lift", 0, 1, 0, 1))

    def test_doing(self):
        self.fails(with_deeds(ADD, [("odd", [[0, 1, 1], [0, 1, 1]])]), ("doing", "odd", 1, 0, 1, 0))
        self.fails(with_deeds(ADD, [("odd", [[0, 1, 2], [0, 1, 0]])]), ("doing", "odd", 0, 1, 2, 0))
        self.fails(with_deeds(ADD, [("odd", [[0, 2, 1], [0, 1, 2]])]), ("doing", "odd", 0, 1, 1, 0))
        self.fails(with_deeds(greatest(3), [("odd", [[0, 2, 1]])]), ("doing", "odd", 1, 0, 2, 0))
        self.fails(with_deeds(last(3), [("odd", [[0, 1, 0]])]), ("doing", "odd", 1, 0, 2, 0))
        self.fails(with_deeds(first(3), [("odd", [[2, 1, 2]])]), ("doing", "odd", 0, 0, 1, 0))

    def test_the_told_order_of_sorts(self):
        deeds = [("lift", LIFTS), ("fill", FILLS)]
        self.fails(with_deeds(ADD, deeds), ("doing", "lift", 0, 1, 0, 1))
        self.fails(with_deeds(ADD, deeds[::-1]), ("empty", "fill"))
        self.fails(with_deeds(with_join(ADD, 1, 1, 1), deeds), ("parting", 1, 1, 2))
        self.fails(with_deeds(with_join(with_join(ADD, 1, 1, 1), 2, 0, 1), deeds), ("nothing", 2))
        self.fails(with_deeds(ADD, [("keep", KEEP), ("zzz", LIFTS), ("aaa", LIFTS)]), ("doing", "zzz", 0, 1, 0, 1))
        both = [[1, 0, 0], [0, 0, 1]]
        self.fails(with_deeds(ADD, [("both", both)]), ("empty", "both"))
        self.assertGreater(len(all_faults(with_deeds(ADD, [("both", both)]))), 1)

    def test_one_value_has_no_faults(self):
        for m in range(1, 7):
            deeds = [(name, [[0]] * m) for name in "abcdef"]
            self.assertIsNone(what_fails((1, m, [[0]], 0, deeds, [])))

    def test_the_last_place_of_all(self):
        # Of eight values, counts by six: the greatest numbers of each sort are asked, too.
        algebra = greatest(8, 6)
        self.fails(with_join(algebra, 7, 0, 6), ("nothing", 7))
        told = [list(range(8)) for _ in range(6)]
        told[5][7] = 6
        self.fails(with_deeds(algebra, [("odd", told)]), ("doing", "odd", 0, 1, 7, 4))
        six = [(name, [list(range(8)) for _ in range(6)]) for name in "abcde"]
        self.fails(with_deeds(algebra, six + [("odd", told)]), ("doing", "odd", 0, 1, 7, 4))

    def test_somewhat_beyond_the_bounds(self):
        self.assertIsNone(what_fails(sums(9, 9)))
        self.fails(with_join(sums(9, 9), 0, 8, 0), ("nothing", 8))
        many = [("abcdefgh" + letter, [[0, 1, 2]] * 7) for letter in "abcdefg"]
        self.assertIsNone(what_fails((3, 7) + ADD[2:4] + (many, [])))

    def test_against_the_point_told_another_way(self):
        sorts = {"nothing": 0, "parting": 0, "empty": 0, "doing": 0, None: 0}
        for algebra in some_algebras(31, 700) + some_algebras(32, 700, most=2):
            kept = copy.deepcopy(algebra)
            told = what_fails(algebra)
            self.assertEqual(told, plain_fault(algebra), algebra)
            self.assertEqual(algebra, kept)
            sorts[told[0] if told else None] += 1
        self.assertGreater(min(sorts.values()), 40, sorts)

    def test_drawn_deeds_upon_sound_joins(self):
        chance = random.Random(33)
        sorts = {"empty": 0, "doing": 0, None: 0}
        for _ in range(600):
            algebra = chance.choice([sums(2, 2), sums(3, 2), greatest(3, 2), last(3, 1), maps(2), first(4, 3)])
            n, m = algebra[:2]
            made = [[chance.randrange(n) for _ in range(n)] for _ in range(m)]
            if chance.random() < 0.7:
                made[0][algebra[3]] = algebra[3]
            deeds = algebra[4] + [("drawn", made)]
            algebra = with_deeds(algebra, chance.choice([deeds, deeds[::-1]]))
            told = what_fails(algebra)
            self.assertEqual(told, plain_fault(algebra), algebra)
            sorts[told[0] if told else None] += 1
        self.assertGreater(min(sorts.values()), 5, sorts)


if __name__ == "__main__":
    unittest.main()
