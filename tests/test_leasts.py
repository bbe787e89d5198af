import copy
import itertools
import random
import unittest

from stretchdeeds.algebras import is_algebra, what_fails
from stretchdeeds.alikes import told_apart
from stretchdeeds.errors import NotLetBy, StretchError
from stretchdeeds.leasts import is_picture, least_algebra
from tests.algsamples import beside, drawn, first, greatest, last, let_by, lists_of, maps, plain_fault, single
from tests.algsamples import some_algebras, spoil_lists, sums
from tests.plainclasses import NAMES, drawn_let_by, drawn_row, drawn_signs, fewest_steps, is_plain_picture
from tests.plainclasses import plain_done, plain_numbers, plain_whole, signs_of


class LeastTest(unittest.TestCase):
    def holds_of(self, algebra, told, beyond=False):
        """All that point 26 says of what is told of this algebra."""
        self.assertIs(type(told), tuple)
        self.assertEqual(len(told), 2)
        least, numbers = told
        self.assertIs(type(numbers), list)
        self.assertTrue(all(type(number) is int for number in numbers))
        self.assertEqual(numbers, plain_numbers(algebra), algebra)
        self.assertTrue(beyond or is_algebra(least), least)
        self.assertEqual(least[:2], (len(set(numbers)), algebra[1]))
        self.assertEqual(least[3], numbers[algebra[3]])
        for k in (4, 5):
            self.assertEqual([part[0] for part in least[k]], [part[0] for part in algebra[k]])
        for a, b in itertools.product(range(algebra[0]), repeat=2):
            self.assertEqual(least[2][numbers[a]][numbers[b]], numbers[algebra[2][a][b]])
        for (_, rows), (_, mine) in zip(algebra[4], least[4]):
            for c, a in itertools.product(range(algebra[1]), range(algebra[0])):
                self.assertEqual(mine[c][numbers[a]], numbers[rows[c][a]])
        for a in range(algebra[0]):
            self.assertEqual(signs_of(least, numbers[a]), signs_of(algebra, a))

    def test_written_out(self):
        algebra = (4, 1, [[(a + b) % 4 for b in range(4)] for a in range(4)], 0, [("twice", [[0, 2, 0, 2]])], [("even", [0, 2])])
        least = (2, 1, [[0, 1], [1, 0]], 0, [("twice", [[0, 0]])], [("even", [0])])
        self.assertEqual(least_algebra(algebra), (least, [0, 1, 0, 1]))

    def test_classes_are_numbered_by_their_least_values(self):
        # 3 is nothing, 0 and 2 are alike; so 3 is the class of the number 2.
        join = [[0, 0, 0, 0], [1, 1, 1, 1], [2, 2, 2, 2], [0, 1, 2, 3]]
        algebra = (4, 1, join, 3, [], [("mid", [1]), ("end", [3])])
        least = (3, 1, [[0, 0, 0], [1, 1, 1], [0, 1, 2]], 2, [], [("mid", [1]), ("end", [2])])
        self.assertEqual(least_algebra(algebra), (least, [0, 1, 0, 2]))

    def test_without_signs_all_are_one(self):
        for algebra in let_by():
            n, m, _, _, deeds, _ = algebra
            least = (1, m, [[0]], 0, [(name, [[0]] * m) for name, _ in deeds], [])
            self.assertEqual(least_algebra(algebra[:5] + ([],)), (least, [0] * n))

    def test_with_a_sign_of_each_value_none_are(self):
        for algebra in (sums(4, 2), greatest(4), last(4, 3), first(4), maps(6)):
            algebra = algebra[:5] + ([(name, [a]) for a, name in enumerate("abcd")],)
            self.assertEqual(least_algebra(algebra), (algebra, [0, 1, 2, 3]))

    def test_two_beside_one_another_of_which_one_has_signs(self):
        one, other = sums(2, 2), greatest(4, 2)
        algebra = beside(one, other)
        signs = [("lodd", [4, 5, 6, 7])]
        least, numbers = least_algebra(algebra[:5] + (signs,))
        self.assertEqual(numbers, [0, 0, 0, 0, 1, 1, 1, 1])
        self.assertEqual(least[2], one[2])

    def test_classes_that_only_deeds_part(self):
        # 1 and 2 both keep whatever is joined with them; it's the deed that leads to the sign from one of them.
        algebra = (4, 1, [[max(a, b) for b in range(4)] for a in range(4)], 0, [], [("top", [3])])
        self.assertEqual(least_algebra(algebra)[1], [0, 0, 0, 1])
        lift = [("lift", [[0, 1, 3, 3]])]
        self.assertEqual(least_algebra(algebra[:4] + (lift,) + algebra[5:])[1], [0, 0, 1, 2])
        once = [("lift", [[0, 2, 3, 3]])]
        self.assertEqual(least_algebra(algebra[:4] + (once,) + algebra[5:])[1], [0, 1, 2, 3])

    def test_drawn_ones(self):
        parted = 0
        for algebra in let_by() + drawn_let_by(221, 700):
            kept = copy.deepcopy(algebra)
            told = least_algebra(algebra)
            self.assertEqual(algebra, kept)
            self.holds_of(algebra, told)
            parted += 1 < told[0][0] < algebra[0]
        self.assertGreater(parted, 70)

    def test_it_is_let_by_and_no_two_are_alike(self):
        for algebra in drawn_let_by(222, 300):
            least, _ = least_algebra(algebra)
            self.assertIsNone(what_fails(least))
            self.assertIsNone(plain_fault(least))
            for a, b in itertools.combinations(range(least[0]), 2):
                self.assertIn((a, b), fewest_steps(least))
                self.assertEqual(told_apart(least, a, b)[0], "frame")

    def test_the_least_of_the_least_is_itself(self):
        for algebra in drawn_let_by(223, 300):
            least, _ = least_algebra(algebra)
            self.assertEqual(least_algebra(least), (least, list(range(least[0]))))

    def test_rows_with_deeds_done_beside_the_rows_of_their_numbers(self):
        chance = random.Random(224)
        for algebra in drawn_let_by(225, 300):
            least, numbers = least_algebra(algebra)
            row = drawn_row(chance, algebra)
            other = [numbers[value] for value in row]
            for _ in range(6):
                self.assertEqual(other, [numbers[value] for value in row])
                i, j = sorted(chance.randint(0, len(row)) for _ in range(2))
                self.assertEqual(
                    signs_of(algebra, plain_whole(algebra, row[i:j])), signs_of(least, plain_whole(least, other[i:j])),
                )
                if algebra[4]:
                    name = chance.choice(algebra[4])[0]
                    row = plain_done(algebra, name, row, i, j)
                    other = plain_done(least, name, other, i, j)

    def test_one_that_is_not_let_by(self):
        refused = 0
        for algebra in some_algebras(226, 300) + [drawn(random.Random(seed)) for seed in range(100)]:
            kept = copy.deepcopy(algebra)
            fault = plain_fault(algebra)
            if fault is None:
                self.holds_of(algebra, least_algebra(algebra))
                continue
            refused += 1
            with self.assertRaises(StretchError) as caught:
                least_algebra(algebra)
            self.assertIs(type(caught.exception), NotLetBy)
            self.assertEqual(caught.exception.what, fault)
            self.assertEqual(algebra, kept)
        self.assertGreater(refused, 200)

    def test_each_sort_of_fault(self):
        faults = [
            ((2, 1, [[0, 0], [1, 0]], 0, [], []), ("nothing", 1)),
            ((3, 1, [[0, 1, 2], [1, 0, 1], [2, 1, 0]], 0, [], []), ("parting", 1, 1, 2)),
            ((2, 1, [[0, 1], [1, 0]], 0, [("fill", [[1, 1]])], []), ("empty", "fill")),
            ((3, 1, [[0, 1, 2], [1, 2, 0], [2, 0, 1]], 0, [("odd", [[0, 1, 1]])], []), ("doing", "odd", 1, 0, 1, 0)),
        ]
        for algebra, what in faults:
            with self.assertRaises(NotLetBy) as caught:
                least_algebra(algebra)
            self.assertEqual(caught.exception.what, what)

    def test_the_told_lists_are_the_askers_own(self):
        for algebra in drawn_let_by(227, 60) + [maps(2), sums(4, 4)]:
            told = least_algebra(algebra)
            kept = copy.deepcopy((algebra, told))
            again = least_algebra(algebra)
            mine = lists_of(told)
            self.assertEqual(len(mine), len({id(part) for part in mine}))
            for part, yours in itertools.product(mine, lists_of(again) + lists_of(algebra)):
                self.assertIsNot(part, yours)
            spoil_lists(again)
            self.assertEqual((algebra, told), kept)
            self.assertEqual(least_algebra(algebra), told)
            spoil_lists(algebra)
            self.assertEqual(told, kept[1])

    def test_somewhat_beyond_the_bounds(self):
        algebra = sums(12, 12)[:5] + ([("abcdefghij", [0, 3, 6, 9])] + [(name, []) for name in "abcde"],)
        self.holds_of(algebra, least_algebra(algebra), beyond=True)
        self.assertEqual(least_algebra(algebra)[1], [0, 1, 2] * 4)


class PictureTest(unittest.TestCase):
    def asked(self, one, other, numbers):
        kept = copy.deepcopy((one, other, numbers))
        told = is_picture(one, other, numbers)
        self.assertIs(type(told), bool)
        self.assertEqual(told, is_plain_picture(one, other, numbers), (one, other, numbers))
        self.assertEqual((one, other, numbers), kept)
        return told

    def test_of_the_least_algebra(self):
        for algebra in let_by() + drawn_let_by(231, 300):
            least, numbers = least_algebra(algebra)
            self.assertTrue(self.asked(algebra, least, numbers))

    def test_of_one_and_the_same(self):
        # Neither needs to be let by.
        for algebra in drawn_let_by(232, 60) + some_algebras(233, 60):
            self.assertTrue(self.asked(algebra, copy.deepcopy(algebra), list(range(algebra[0]))))
            self.assertTrue(self.asked(algebra, algebra, list(range(algebra[0]))))

    def test_changed_at_one_place(self):
        for algebra in drawn_let_by(234, 250):
            least, numbers = least_algebra(algebra)
            for place, number in itertools.product(range(len(numbers)), range(-1, least[0] + 1)):
                if number != numbers[place]:
                    changed = numbers[:place] + [number] + numbers[place + 1:]
                    self.assertFalse(self.asked(algebra, least, changed))

    def test_too_short_and_too_long(self):
        for algebra in drawn_let_by(235, 60):
            least, numbers = least_algebra(algebra)
            for other in ([], numbers[:-1], numbers[1:], numbers + [0], numbers + numbers, numbers + [-1], [0] * 300):
                if len(other) != len(numbers):
                    self.assertFalse(self.asked(algebra, least, other))

    def test_numbers_below_nought_and_beyond(self):
        # -1 is the last value as Python's lists are asked, but it is no value.
        algebra = single(2)
        self.assertTrue(self.asked(algebra, algebra, [0]))
        for number in (-1, 1, -2, 10 ** 60, -(10 ** 60)):
            self.assertFalse(self.asked(algebra, algebra, [number]))
        algebra = sums(3, 3)
        self.assertTrue(self.asked(algebra, algebra, [0, 1, 2]))
        for numbers in ([0, 1, -1], [-3, -2, -1], [0, -2, 2], [3, 1, 2], [0, 1, 10 ** 60], [0, 1, -(10 ** 60)]):
            self.assertFalse(self.asked(algebra, algebra, numbers))

    def test_another_m(self):
        for one, other in ((greatest(3, 1), greatest(3, 2)), (greatest(3, 6), greatest(3, 3)), (single(1), single(2))):
            self.assertFalse(self.asked(one, other, list(range(one[0]))))
            self.assertFalse(self.asked(other, one, list(range(one[0]))))

    def test_other_names_and_another_order_of_names(self):
        rows = [[0, 1]]
        deeds, signs = [("up", rows), ("down", rows)], [("here", [1]), ("there", [1])]
        algebra = (2, 1, [[0, 1], [1, 1]], 0, deeds, signs)
        for k, told in ((4, deeds), (5, signs)):
            others = [told[::-1], told[:1], told[1:], [], told + [("more", told[0][1])], [("other", told[0][1]), told[1]]]
            for other in others:
                changed = algebra[:k] + (other,) + algebra[k + 1:]
                self.assertFalse(self.asked(algebra, changed, [0, 1]))
                self.assertFalse(self.asked(changed, algebra, [0, 1]))
                self.assertTrue(self.asked(changed, changed, [0, 1]))
        self.assertTrue(self.asked(algebra, algebra, [0, 1]))
        # A deed's name is no sign's.
        exchanged = algebra[:4] + ([("here", rows), ("there", rows)], [("up", [1]), ("down", [1])])
        self.assertFalse(self.asked(algebra, exchanged, [0, 1]))

    def test_each_thing_that_is_to_be_kept(self):
        algebra = (3, 2, [[0, 1, 2], [1, 1, 2], [2, 2, 2]], 0, [("up", [[0, 1, 2], [0, 2, 2]])], [("top", [2])])
        self.assertTrue(self.asked(algebra, algebra, [0, 1, 2]))
        for a, b in itertools.product(range(3), repeat=2):
            other = copy.deepcopy(algebra)
            other[2][a][b] = (other[2][a][b] + 1) % 3
            self.assertFalse(self.asked(algebra, other, [0, 1, 2]))
        for c, a in itertools.product(range(2), range(3)):
            other = copy.deepcopy(algebra)
            other[4][0][1][c][a] = (other[4][0][1][c][a] + 1) % 3
            self.assertFalse(self.asked(algebra, other, [0, 1, 2]))
        for nothing in (1, 2):
            other = algebra[:3] + (nothing,) + algebra[4:]
            self.assertFalse(self.asked(algebra, other, [0, 1, 2]))
        for values in ([], [0, 2], [1, 2], [1], [0, 1, 2]):
            other = algebra[:5] + ([("top", values)],)
            self.assertFalse(self.asked(algebra, other, [0, 1, 2]))
            self.assertFalse(self.asked(other, algebra, [0, 1, 2]))

    def test_the_last_deed_and_the_last_sign(self):
        rows = [list(range(8)) for _ in range(6)]
        algebra = (8, 6, greatest(8)[2], 0, [(name, rows) for name in "abcdef"], [(name, [7]) for name in "abcd"])
        self.assertTrue(self.asked(algebra, algebra, list(range(8))))
        other = copy.deepcopy(algebra)
        other[4][5] = ("f", copy.deepcopy(rows))
        other[4][5][1][5][7] = 6
        self.assertFalse(self.asked(algebra, other, list(range(8))))
        other = copy.deepcopy(algebra)
        other[5][3] = ("d", [6, 7])
        self.assertFalse(self.asked(algebra, other, list(range(8))))

    def test_into_a_greater_one_and_onto_a_lesser_one(self):
        two, four = greatest(2)[:4] + ([], []), greatest(4)[:4] + ([], [])
        self.assertTrue(self.asked(two, four, [0, 3]))
        self.assertTrue(self.asked(two, four, [0, 0]))
        self.assertFalse(self.asked(two, four, [1, 3]))
        self.assertTrue(self.asked(four, two, [0, 0, 1, 1]))
        self.assertFalse(self.asked(four, two, [0, 1, 0, 1]))

    def test_each_list_of_few_numbers(self):
        chance = random.Random(236)
        found = [algebra for algebra in drawn_let_by(237, 300) if algebra[0] < 4]
        pictures = 0
        for _ in range(300):
            one = chance.choice(found)
            other = chance.choice([algebra for algebra in found if algebra[1] == one[1]])
            names = [part[0] for part in one[4]], [part[0] for part in one[5]]
            if chance.random() < 0.9:
                deeds = [(name, rows) for name, (_, rows) in zip(names[0], other[4])]
                signs = [(name, values) for name, (_, values) in zip(names[1], other[5])]
                one = one[:4] + (one[4][:len(deeds)], one[5][:len(signs)])
                other = other[:4] + (deeds, signs)
            for numbers in itertools.product(range(other[0]), repeat=one[0]):
                pictures += self.asked(one, other, list(numbers))
        self.assertGreater(pictures, 100)

    def test_with_drawn_signs(self):
        chance = random.Random(238)
        for algebra in drawn_let_by(239, 100):
            other = algebra[:5] + (drawn_signs(chance, algebra[0]),)
            names = chance.sample(NAMES, 4)
            here = algebra[:5] + ([(name, values) for name, (_, values) in zip(names, algebra[5])],)
            there = other[:5] + ([(name, values) for name, (_, values) in zip(names, other[5])],)
            self.asked(here, there, list(range(algebra[0])))

    def test_somewhat_beyond_the_bounds(self):
        self.assertTrue(self.asked(sums(9, 9), sums(9, 9), list(range(9))))
        self.assertFalse(self.asked(sums(9, 9), sums(9, 9), list(range(1, 10))))


if __name__ == "__main__":
    unittest.main()
