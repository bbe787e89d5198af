import copy
import itertools
import random
import unittest

from stretchdeeds.alikes import framed, told_apart
from tests.algsamples import bent, drawn, greatest, last, let_by, lists_of, maps, single, some_algebras, spoil_lists, sums
from tests.plainclasses import all_steps, chain, drawn_let_by, fewest_steps, plain_frame, signs_of

# Neither let by nor the same from both sides: each step makes something else of each value.
ODD_ONE = (
    3, 2, [[1, 2, 0], [0, 2, 1], [2, 0, 0]], 1,
    [("left", [[2, 2, 0], [1, 0, 1]]), ("right", [[0, 0, 1], [2, 1, 2]]), ("deed", [[1, 1, 1], [2, 0, 0]])],
    [("left", [0]), ("deed", [1, 2])],
)


def drawn_ones(seed, many):
    """Algebras of any kind: of any values, let by, bent, and such as need many steps."""
    chance = random.Random(seed)
    found = [drawn(chance) for _ in range(many)] + drawn_let_by(seed, many) + some_algebras(seed, many)
    for _ in range(many):
        n, m = chance.randint(2, 8), chance.randint(1, 6)
        algebra = chain(n, m, chance.randrange(m), chance.choice(["on", "left", "right"]))
        found.append(bent(chance, algebra) if chance.random() < 0.5 else algebra)
    return found


class FramedTest(unittest.TestCase):
    def test_no_step(self):
        for algebra in let_by() + [ODD_ONE]:
            for value in range(algebra[0]):
                self.assertEqual(framed(algebra, [], value), value)

    def test_each_kind_of_step(self):
        join, deeds = ODD_ONE[2], dict(ODD_ONE[4])
        for value in range(3):
            for x in range(3):
                self.assertEqual(framed(ODD_ONE, [("left", x)], value), join[x][value])
                self.assertEqual(framed(ODD_ONE, [("right", x)], value), join[value][x])
            for name, c in itertools.product(deeds, range(2)):
                self.assertEqual(framed(ODD_ONE, [("deed", name, c)], value), deeds[name][c][value])

    def test_written_out(self):
        algebra = maps(2)
        self.assertEqual(framed(algebra, [("left", 1)], 3), 2)
        self.assertEqual(framed(algebra, [("right", 1)], 3), 1)
        self.assertEqual(framed(algebra, [("deed", "swap", 1)], 1), 2)
        self.assertEqual(framed(algebra, [("deed", "rest", 0)], 1), 0)
        self.assertEqual(framed(algebra, [("deed", "rest", 1)], 1), 3)
        self.assertEqual(framed(algebra, [("left", 1), ("deed", "swap", 0), ("left", 3)], 3), 1)

    def test_one_step_behind_the_other(self):
        # At first left, then right, is something else than at first right, then left.
        steps = [("left", 0), ("right", 1)]
        came = [framed(ODD_ONE, steps, value) for value in range(3)]
        self.assertEqual(came, [2, 0, 2])
        self.assertEqual([framed(ODD_ONE, steps[::-1], value) for value in range(3)], [0, 0, 1])

    def test_drawn_frames(self):
        chance = random.Random(201)
        for algebra in drawn_ones(202, 60):
            steps = [chance.choice(all_steps(algebra)) for _ in range(chance.choice([1, 2, 3, 8, 40]))]
            kept = copy.deepcopy((algebra, steps))
            for value in range(algebra[0]):
                self.assertEqual(framed(algebra, steps, value), plain_frame(algebra, steps, value))
            self.assertEqual((algebra, steps), kept)

    def test_many_steps(self):
        for many in (100, 2000):
            self.assertEqual(framed(sums(5), [("left", 1)] * many, 2), (2 + many) % 5)
            self.assertEqual(framed(sums(4, 4), [("right", 3), ("deed", "up", 3)] * many, 1), (1 + 6 * many) % 4)

    def test_somewhat_beyond_the_bounds(self):
        self.assertEqual(framed(sums(9, 9), [("left", 8), ("deed", "up", 8)], 8), 6)


class ToldApartTest(unittest.TestCase):
    def holds_of(self, algebra, told, one, other):
        """Whether what is told is an answer as point 25 has it, but for how many steps there are."""
        self.assertIs(type(told), tuple)
        self.assertEqual((len(told), told[0]), (3, "frame"), algebra)
        _, steps, name = told
        self.assertIs(type(steps), list)
        for step in steps:
            self.assertIs(type(step), tuple)
            self.assertIn(step, all_steps(algebra))
        came = [plain_frame(algebra, steps, value) for value in (one, other)]
        self.assertIn(name, [sign for sign, _ in algebra[5]])
        self.assertNotEqual(*[name in signs_of(algebra, value) for value in came])

    def agrees(self, algebra):
        """Each two values, held against the closing of classes; how many steps each told frame has, is told."""
        needed = fewest_steps(algebra)
        kept = copy.deepcopy(algebra)
        found = []
        for one, other in itertools.product(range(algebra[0]), repeat=2):
            told = told_apart(algebra, one, other)
            if (one, other) in needed:
                self.holds_of(algebra, told, one, other)
                self.assertEqual(len(told[1]), needed[one, other], (algebra, one, other))
                found.append(len(told[1]))
            else:
                self.assertEqual(told, ("alike",), (algebra, one, other))
                self.assertIs(type(told), tuple)
                found.append(None)
        self.assertEqual(algebra, kept)
        return found

    def test_written_out(self):
        algebra = (2, 1, [[0, 1], [1, 0]], 0, [], [("one", [1])])
        self.assertEqual(told_apart(algebra, 0, 1), ("frame", [], "one"))
        self.assertEqual(told_apart(algebra, 1, 0), ("frame", [], "one"))
        self.assertEqual(told_apart(algebra, 1, 1), ("alike",))

    def test_one_frame_alone_does(self):
        algebra = chain(5, 3, 2)
        self.assertEqual(told_apart(algebra, 1, 2), ("frame", [("deed", "on", 2)] * 2, "end"))
        self.assertEqual(told_apart(algebra, 2, 0), ("frame", [("deed", "on", 2)] * 2, "end"))
        self.assertEqual(told_apart(algebra, 0, 1), ("frame", [("deed", "on", 2)] * 3, "end"))
        self.assertEqual(told_apart(algebra, 4, 0), ("frame", [], "end"))

    def test_one_side_alone_does(self):
        # 1 and 2 differ in what comes when 3 stands behind them, or ahead of them.
        join = [[0, 0, 0, 0], [0, 0, 0, 3], [0, 0, 0, 0], [0, 0, 0, 0]]
        told = ("frame", [("right", 3)], "end")
        self.assertEqual(told_apart((4, 1, join, 0, [], [("end", [3])]), 1, 2), told)
        turned = [list(column) for column in zip(*join)]
        told = ("frame", [("left", 3)], "end")
        self.assertEqual(told_apart((4, 1, turned, 0, [], [("end", [3])]), 1, 2), told)

    def test_a_deed_called_left_or_right(self):
        for name in ("left", "right", "deed"):
            self.assertEqual(told_apart(chain(4, 2, 1, name), 1, 2), ("frame", [("deed", name, 1)], "end"))

    def test_the_sign_that_tells(self):
        signs = [("none", []), ("all", [0, 1, 2]), ("end", [2])]
        algebra = chain(3, 1, signs=signs)
        self.assertEqual(told_apart(algebra, 0, 1), ("frame", [("deed", "on", 0)], "end"))
        self.assertEqual(told_apart(algebra, 2, 1), ("frame", [], "end"))

    def test_a_value_and_itself(self):
        for algebra in drawn_ones(203, 20):
            for value in range(algebra[0]):
                self.assertEqual(told_apart(algebra, value, value), ("alike",))

    def test_without_signs_and_with_idle_signs(self):
        for algebra in drawn_ones(204, 15):
            for signs in ([], [("none", [])], [("none", []), ("all", list(range(algebra[0])))]):
                self.assertEqual(set(self.agrees(algebra[:5] + (signs,))), {None})

    def test_known_classes(self):
        # Of the last one only whether it is set counts; of the greatest only whether it reaches the top.
        self.assertEqual(self.agrees(last(3)[:4] + ([], [("some", [1, 2])])).count(None), 5)
        self.assertEqual(self.agrees(greatest(8)[:4] + ([], [("top", [7])])).count(None), 1 + 49)
        self.assertEqual(self.agrees(sums(6)[:4] + ([], [("even", [0, 2, 4])])).count(None), 18)
        self.assertEqual(self.agrees(single(3)), [None])

    def test_each_two_of_drawn_ones(self):
        counts = {}
        for algebra in drawn_ones(205, 130):
            for steps in self.agrees(algebra):
                counts[steps] = counts.get(steps, 0) + 1
        self.assertGreater(counts[None], 1000)
        for steps in range(6):
            self.assertGreater(counts[steps], 20, counts)

    def test_each_frame_of_few_steps_tells_alike_ones_alike(self):
        for algebra in drawn_ones(206, 12):
            if algebra[0] > 4 or algebra[1] > 3:
                continue
            steps = all_steps(algebra)
            frames = [()] + [(step,) for step in steps] + list(itertools.product(steps, repeat=2))
            for one, other in itertools.combinations(range(algebra[0]), 2):
                told = told_apart(algebra, one, other)
                for frame in frames:
                    came = [signs_of(algebra, plain_frame(algebra, frame, value)) for value in (one, other)]
                    if told[0] == "alike" or len(frame) < len(told[1]):
                        self.assertEqual(*came)

    def test_the_told_list_is_the_askers_own(self):
        for algebra in (chain(5, 2), maps(2), ODD_ONE):
            for one, other in itertools.product(range(algebra[0]), repeat=2):
                told = told_apart(algebra, one, other)
                kept = copy.deepcopy((algebra, told))
                again = told_apart(algebra, one, other)
                for mine, yours in itertools.product(lists_of(told), lists_of(again) + lists_of(algebra)):
                    self.assertIsNot(mine, yours)
                spoil_lists(again)
                self.assertEqual((algebra, told), kept)
                self.assertEqual(told_apart(algebra, one, other)[0], told[0])

    def test_what_is_done_to_the_algebra_afterwards(self):
        algebra = chain(5, 2)
        told = told_apart(algebra, 0, 1)
        kept = copy.deepcopy(told)
        spoil_lists(algebra)
        self.assertEqual(told, kept)

    def test_somewhat_beyond_the_bounds(self):
        self.agrees(sums(9, 9))
        self.agrees(chain(10, 8, 7, signs=[(name, [9]) for name in "abcdef"]))


if __name__ == "__main__":
    unittest.main()
