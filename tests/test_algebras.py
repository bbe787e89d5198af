import copy
import random
import unittest

from stretchdeeds.algebras import done_to, is_algebra, join_by, joined, rows_by
from stretchdeeds.terms import worth
from tests.algsamples import drawn, first, greatest, last, let_by, lists_of, maps, single, some_algebras, sums
from tests.samples import ODD, Unasked, nested, some_terms

A = ("name", "a")
B = ("name", "b")
C = ("name", "c")


def plain_value(thing, least, most):
    return type(thing) is int and thing in range(least, most + 1)


def plain_name(thing):
    return type(thing) is str and 1 <= len(thing) <= 8 and all(97 <= ord(letter) <= 122 for letter in thing)


def plain_table(thing, many, n):
    return type(thing) is list and len(thing) == many and all(
        type(row) is list and len(row) == n and all(plain_value(value, 0, n - 1) for value in row) for row in thing
    )


def plain_named(thing, most, fits):
    if type(thing) is not list or len(thing) > most:
        return False
    for part in thing:
        if type(part) is not tuple or len(part) != 2 or not plain_name(part[0]) or not fits(part[1]):
            return False
    names = [part[0] for part in thing]
    return all(names.count(name) == 1 for name in names)


def plain_rising(thing, n):
    if type(thing) is not list or not all(plain_value(value, 0, n - 1) for value in thing):
        return False
    return sorted(set(thing)) == thing


def plainly_algebra(thing):
    """Point 8 once more."""
    if type(thing) is not tuple or len(thing) != 6:
        return False
    n, m, join, nothing, deeds, signs = thing
    return (
        plain_value(n, 1, 8) and plain_value(m, 1, 6) and plain_table(join, n, n) and plain_value(nothing, 0, n - 1)
        and plain_named(deeds, 6, lambda told: plain_table(told, m, n))
        and plain_named(signs, 4, lambda told: plain_rising(told, n))
    )


def one_place_changed(thing, odd):
    """Each thing that comes of this one by one of its parts, at any depth, made odd, left out or told twice."""
    found = [odd]
    if isinstance(thing, (list, tuple)):
        kind = type(thing)
        for k, part in enumerate(thing):
            ahead, behind = list(thing[:k]), list(thing[k + 1:])
            found += [kind(ahead + [changed] + behind) for changed in one_place_changed(part, odd)]
    return found


def one_place_bent(thing):
    """Each thing that comes of this one by a part left out, told twice, or another kind of list, at any depth."""
    if not isinstance(thing, (list, tuple)):
        return []
    kind = type(thing)
    found = [tuple(thing) if kind is list else list(thing), kind(thing[::-1]), set(), dict(enumerate(thing)), str(thing)]
    for k, part in enumerate(thing):
        ahead, behind = list(thing[:k]), list(thing[k + 1:])
        found += [kind(ahead + behind), kind(ahead + [part, part] + behind), kind(ahead)]
        found += [kind(ahead + [changed] + behind) for changed in one_place_bent(part)]
    return found


class IsAlgebraTest(unittest.TestCase):
    def yes(self, thing):
        kept = copy.deepcopy(thing)
        self.assertIs(is_algebra(thing), True, thing)
        self.assertEqual(repr(thing), repr(kept))

    def no(self, thing):
        ahead = repr(thing)
        self.assertIs(is_algebra(thing), False, ahead[:300])
        self.assertEqual(repr(thing), ahead)

    def with_part(self, place, part):
        return SMALL[:place] + (part,) + SMALL[place + 1:]

    def test_those_of_the_samples(self):
        for algebra in let_by() + some_algebras(1, 300):
            self.yes(algebra)

    def test_one_value_and_eight(self):
        self.yes((1, 1, [[0]], 0, [], []))
        for n in range(1, 9):
            self.yes((n, 1, [[k] * n for k in range(n)], n - 1, [("up", [[n - 1] * n])], [("all", list(range(n)))]))
        for n in (-1, 0, 9, 10):
            self.no((n, 1, [[0] * n for _ in range(n)], 0, [], []))
        self.no((0, 1, [], 0, [], []))

    def test_counts_by_one_and_by_six(self):
        for m in range(1, 7):
            self.yes((2, m, [[0, 1], [1, 0]], 0, [("up", [[0, 1] for _ in range(m)])], []))
        for m in (-1, 0, 7, 8):
            self.no((2, m, [[0, 1], [1, 0]], 0, [("up", [[0, 1] for _ in range(m)])], []))
            self.no((2, m, [[0, 1], [1, 0]], 0, [], []))

    def test_no_deeds_and_six(self):
        for many in range(9):
            deeds = [(name, [[0, 1]]) for name in "abcdefghi"[:many]]
            thing = (2, 1, [[0, 1], [1, 0]], 0, deeds, [])
            self.assertIs(is_algebra(thing), many <= 6, many)

    def test_no_signs_and_four(self):
        for many in range(7):
            signs = [(name, [1]) for name in "abcdefghi"[:many]]
            thing = (2, 1, [[0, 1], [1, 0]], 0, [], signs)
            self.assertIs(is_algebra(thing), many <= 4, many)

    def test_a_sign_named_as_a_deed(self):
        self.yes((2, 1, [[0, 1], [1, 0]], 0, [("up", [[0, 1]])], [("up", [1])]))

    def test_names_told_twice(self):
        self.no(self.with_part(4, [("up", [[0, 1], [0, 1]]), ("up", [[0, 0], [0, 0]])]))
        self.no(self.with_part(4, [(name, [[0, 1], [0, 1]]) for name in ("up", "down", "back", "up")]))
        self.no(self.with_part(5, [("odd", [1]), ("odd", [])]))
        self.no(self.with_part(5, [("odd", [1]), ("a", []), ("b", []), ("odd", [1])]))

    def test_names(self):
        for name in ("a", "z", "abcdefgh", "rows", "join", "zzzzzzzz"):
            self.yes(self.with_part(4, [(name, [[0, 1], [0, 1]])]))
            self.yes(self.with_part(5, [(name, [1])]))
        wrong = (
            "", "abcdefghi", "A", "aB", "Z", "a b", " a", "a ", "\n", "a\n", "a1", "1", "-", "a_b", "`", "{", "\u00e9",
            "a\u00df", "\u00aa", "\u03b1", None, 0, True, b"a", ["a"], ("a",), ("a", "b"), Unasked(), 1.5, {"a": 1},
        )
        for name in wrong:
            self.no(self.with_part(4, [(name, [[0, 1], [0, 1]])]))
            self.no(self.with_part(4, [("up", [[0, 1], [0, 1]]), (name, [[0, 1], [0, 1]])]))
            self.no(self.with_part(5, [(name, [1])]))
            self.no(self.with_part(5, [("odd", [1]), (name, [1])]))

    def test_values_of_signs(self):
        for values in ([], [0], [1], [0, 1]):
            self.yes(self.with_part(5, [("odd", values)]))
        for values in ([1, 0], [0, 0], [1, 1], [0, 0, 1], [0, 1, 1], [2], [-1], [0, 2], [True], [0, True], ["0"], [0.0],
                       [None], [[0]], (), (0,), "0", None, {0: 0}, {0}, 0):
            self.no(self.with_part(5, [("odd", values)]))
        three = (3, 1, [[0] * 3 for _ in range(3)], 0, [], [("odd", [0, 2])])
        self.yes(three)
        self.no(three[:5] + ([("odd", [0, 2, 1])],))
        self.no(three[:5] + ([("odd", [1, 0, 2])],))
        self.no(three[:5] + ([("odd", [2, 0])],))

    def test_numbers_that_are_none(self):
        for place in (0, 1, 3):
            for number in (True, False, "1", "2", None, [2], (2,), 2.0, -1, 10 ** 60, -(10 ** 60), 10 ** 3000, Unasked()):
                self.no(self.with_part(place, number))
        for number in (True, False, 2, -1, 10 ** 60, 10 ** 3000, "0", 0.0, None, [0], Unasked()):
            self.no(self.with_part(2, [[0, 1], [1, number]]))
            self.no(self.with_part(2, [[number, 1], [1, 0]]))
            self.no(self.with_part(4, [("up", [[0, 1], [0, number]])]))
            self.no(self.with_part(4, [("up", [[number, 1], [0, 1]])]))
        # Where there is but one value, True in the stead of one must not pass for it.
        for thing in ((True, 1, [[0]], 0, [], []), (1, True, [[0]], 0, [], []), (1, 1, [[False]], 0, [], []),
                      (1, 1, [[0]], False, [], []), (1, 1, [[0]], 0, [("a", [[False]])], []),
                      (1, 1, [[0]], 0, [], [("a", [False])])):
            self.no(thing)

    def test_too_few_and_too_many(self):
        self.no(SMALL[:5])
        self.no(SMALL + ([],))
        self.no(SMALL[1:])
        for join in ([], [[0, 1]], [[0, 1], [1, 0], [0, 1]], [[0, 1], [1]], [[0, 1], []], [[0, 1], [1, 0, 1]],
                     [[0], [1]], [[0, 1, 0], [1, 0, 0]], [0, 1, 1, 0], [[[0, 1], [1, 0]]]):
            self.no(self.with_part(2, join))
        for told in ([], [[0, 1]], [[0, 1], [0, 1], [0, 1]], [[0, 1], [0]], [[0, 1], []], [[0, 1, 1], [0, 1]], [0, 1]):
            self.no(self.with_part(4, [("up", told)]))
        for deeds in ([()], [("up",)], [("up", [[0, 1], [0, 1]], [])], [("up", [0, 1], [0, 1])], [[]], [None], ["up"]):
            self.no(self.with_part(4, deeds))
        for signs in ([()], [("odd",)], [("odd", [1], [])], [("odd", 1)], [[]], [None], ["odd"]):
            self.no(self.with_part(5, signs))

    def test_lists_in_a_tuples_stead_and_tuples_in_a_lists(self):
        self.no(list(SMALL))
        for place in (2, 4, 5):
            self.no(self.with_part(place, tuple(SMALL[place])))
        self.no(self.with_part(2, [[0, 1], (1, 0)]))
        self.no(self.with_part(2, [(0, 1), [1, 0]]))
        self.no(self.with_part(4, [["up", [[0, 1], [0, 1]]]]))
        self.no(self.with_part(4, [("up", ([0, 1], [0, 1]))]))
        self.no(self.with_part(4, [("up", [[0, 1], (0, 1)])]))
        self.no(self.with_part(4, {"up": [[0, 1], [0, 1]]}))
        self.no(self.with_part(5, [["odd", [1]]]))
        self.no(self.with_part(5, [("odd", (1,))]))
        self.no(self.with_part(5, {"odd": [1]}))

    def test_other_kinds(self):
        for thing in ODD:
            self.no(thing)
            self.no((thing,) * 6)
            self.no([thing] * 6)

    def test_nested_sixty_deep_and_two_thousand_parts(self):
        things = nested(59) + nested(60) + [[0] * 2000, (0,) * 2000, [[0]] * 1000, [("a", [])] * 600, ("a",) * 2000]
        for thing in things:
            self.no(thing)
            for place in range(6):
                self.no(self.with_part(place, thing))
            self.no(self.with_part(2, [[0, 1], thing]))
            self.no(self.with_part(2, [[0, 1], [1, thing]]))
            self.no(self.with_part(4, [thing]))
            self.no(self.with_part(4, [(thing, [[0, 1], [0, 1]])]))
            self.no(self.with_part(4, [("up", thing)]))
            self.no(self.with_part(4, [("up", [[0, 1], thing])]))
            self.no(self.with_part(5, [(thing, [1])]))
            self.no(self.with_part(5, [("odd", thing)]))
            self.no(self.with_part(5, [("odd", [0, thing])]))

    def test_one_place_spoiled_against_the_point_told_another_way(self):
        answers = {True: 0, False: 0}
        for algebra in (SMALL, single(2), maps(2), last(3, 2)):
            things = one_place_bent(algebra)
            for odd in ODD:
                things += one_place_changed(algebra, odd)
            for thing in things:
                told = is_algebra(thing)
                self.assertIs(told, plainly_algebra(thing), repr(thing)[:300])
                answers[told] += 1
        self.assertGreater(answers[True], 100, answers)
        self.assertGreater(answers[False], 3000, answers)


SMALL = (2, 2, [[0, 1], [1, 0]], 0, [("up", [[0, 1], [1, 0]]), ("down", [[0, 1], [0, 1]])], [("odd", [1]), ("no", [])])


class ByTermsTest(unittest.TestCase):
    def test_join_of_each_sort(self):
        cases = [
            (("number", 5), [[2, 2, 2]] * 3), (A, [[0, 0, 0], [1, 1, 1], [2, 2, 2]]), (B, [[0, 1, 2]] * 3),
            (("add", A, B), [[0, 1, 2], [1, 2, 0], [2, 0, 1]]), (("take", A, B), [[0, 2, 1], [1, 0, 2], [2, 1, 0]]),
            (("times", A, B), [[0, 0, 0], [0, 1, 2], [0, 2, 1]]), (("most", A, B), [[0, 1, 2], [1, 1, 2], [2, 2, 2]]),
            (("least", A, B), [[0, 0, 0], [0, 1, 1], [0, 1, 2]]),
            (("same", B, ("number", 0), A, B), [[0, 1, 2], [1, 1, 2], [2, 1, 2]]),
        ]
        for term, told in cases:
            self.assertEqual(join_by(3, term), told, term)

    def test_rows_of_each_sort(self):
        cases = [
            (("number", 5), [[2, 2, 2]] * 2), (A, [[0, 1, 2]] * 2), (C, [[0, 0, 0], [1, 1, 1]]),
            (("add", A, C), [[0, 1, 2], [1, 2, 0]]), (("take", A, C), [[0, 1, 2], [2, 0, 1]]),
            (("take", C, A), [[0, 2, 1], [1, 0, 2]]), (("times", A, C), [[0, 0, 0], [0, 1, 2]]),
            (("most", A, C), [[0, 1, 2], [1, 1, 2]]), (("least", A, C), [[0, 0, 0], [0, 1, 1]]),
            (("same", A, C, A, C), [[0, 0, 0], [1, 1, 1]]),
        ]
        for term, told in cases:
            self.assertEqual(rows_by(3, 2, term), told, term)

    def test_least_and_greatest_sizes(self):
        self.assertEqual(join_by(1, ("add", A, ("number", 7))), [[0]])
        self.assertEqual(rows_by(1, 1, ("add", A, C)), [[0]])
        self.assertEqual(rows_by(1, 6, C), [[0]] * 6)
        self.assertEqual(rows_by(8, 1, ("add", A, C)), [list(range(8))])
        self.assertEqual(rows_by(8, 6, C), [[c] * 8 for c in range(6)])
        self.assertEqual(join_by(8, ("times", A, B)), [[a * b % 8 for b in range(8)] for a in range(8)])
        # A count that is beyond the values goes round by them, as every name does.
        self.assertEqual(rows_by(2, 6, C), [[0, 0], [1, 1]] * 3)
        self.assertEqual(rows_by(4, 6, ("most", A, C)), [[max(a, c % 4) for a in range(4)] for c in range(6)])

    def test_somewhat_beyond_the_bounds(self):
        self.assertEqual(join_by(9, B), [list(range(9))] * 9)
        self.assertEqual(rows_by(10, 7, C), [[c] * 10 for c in range(7)])

    def test_drawn_terms(self):
        for k, term in enumerate(some_terms(21, 60, names=["a", "b"])):
            n = k % 8 + 1
            told = join_by(n, term)
            self.assertEqual((len(told), [len(row) for row in told]), (n, [n] * n))
            for a in range(n):
                for b in range(n):
                    self.assertEqual(told[a][b], worth(term, n, {"b": b, "a": a}))
        for k, term in enumerate(some_terms(22, 60, names=["a", "c"])):
            n, m = k % 8 + 1, k % 6 + 1
            told = rows_by(n, m, term)
            self.assertEqual((len(told), [len(row) for row in told]), (m, [n] * m))
            for c in range(m):
                for a in range(n):
                    self.assertEqual(told[c][a], worth(term, n, {"a": a, "c": c}))

    def test_each_list_is_the_askers_own(self):
        for term in (("number", 1), A, ("add", A, A)):
            for asked in (lambda: join_by(4, term), lambda: rows_by(4, 4, term)):
                kept = copy.deepcopy(asked())
                for k in range(4):
                    told = asked()
                    told[k][0] = 99
                    told[k].append(99)
                    self.assertEqual(told[:k] + told[k + 1:], kept[:k] + kept[k + 1:])
                    told.clear()
                    self.assertEqual(asked(), kept)


class JoinedTest(unittest.TestCase):
    def test_no_values_come_to_nothing(self):
        for algebra in let_by() + some_algebras(2, 50):
            self.assertEqual(joined(algebra, []), algebra[3])

    def test_one_value_comes_to_itself(self):
        for algebra in let_by() + some_algebras(3, 50):
            for value in range(algebra[0]):
                self.assertEqual(joined(algebra, [value]), value)

    def test_many(self):
        self.assertEqual(joined(sums(7), [3, 5, 6, 1]), 1)
        self.assertEqual(joined(greatest(8), [3, 5, 6, 1]), 6)
        self.assertEqual(joined(last(8), [3, 5, 6, 0]), 6)
        self.assertEqual(joined(first(8), [7, 7, 3, 5]), 3)
        self.assertEqual(joined(maps(), [3, 1, 3]), 2)
        self.assertEqual(joined(maps(), [1, 3, 1]), 1)
        self.assertEqual(joined(sums(5), [1] * 300), 0)
        self.assertEqual(joined(sums(5), [1] * 311), 1)

    def test_of_one_that_is_not_let_by_from_the_first_on(self):
        taken = (5, 1, join_by(5, ("take", A, B)), 0, [], [])
        self.assertEqual(joined(taken, [4, 1, 1]), 2)
        self.assertEqual(joined(taken, [0, 1]), 4)
        # Nothing joined with a value would come to 4 here.
        odd = (5, 1, [[4] * 5 for _ in range(5)], 2, [], [])
        self.assertEqual([joined(odd, row) for row in ([], [1], [1, 1], [2])], [2, 1, 4, 2])

    def test_however_it_is_parted(self):
        chance = random.Random(11)
        for algebra in let_by():
            for _ in range(20):
                row = [chance.randrange(algebra[0]) for _ in range(chance.randint(0, 12))]
                place = chance.randint(0, len(row))
                ahead, behind = joined(algebra, row[:place]), joined(algebra, row[place:])
                self.assertEqual(joined(algebra, row), algebra[2][ahead][behind])

    def test_what_is_handed_in_stays(self):
        algebra, row = sums(7, 7), [3, 5, 6]
        kept = copy.deepcopy((algebra, row))
        joined(algebra, row)
        done_to(algebra, "double", row)
        self.assertEqual((algebra, row), kept)


class DoneToTest(unittest.TestCase):
    def test_at_count_one(self):
        self.assertEqual(done_to(sums(6, 6), "up", [0, 1, 5, 5]), [1, 2, 0, 0])
        self.assertEqual(done_to(sums(6, 2), "up", [0, 1, 5]), [3, 4, 2])
        self.assertEqual(done_to(sums(6, 2), "double", [0, 1, 5]), [0, 2, 4])
        algebra = (2, 3, [[0, 1], [1, 0]], 0, [("a", [[0, 0], [1, 0], [1, 1]]), ("b", [[0, 0], [1, 1], [0, 0]])], [])
        self.assertEqual(done_to(algebra, "a", [0, 1, 1, 0]), [1, 0, 0, 1])
        self.assertEqual(done_to(algebra, "b", [0, 1, 1, 0]), [1, 1, 1, 1])

    def test_at_count_nought_by_one(self):
        self.assertEqual(done_to(sums(6, 1), "double", [0, 1, 5]), [0, 2, 4])
        self.assertEqual(done_to(greatest(8), "lower", [0, 7, 1]), [0, 6, 0])

    def test_to_no_values_and_to_many(self):
        for m in (1, 2, 6):
            self.assertEqual(done_to(sums(6, m), "up", []), [])
        self.assertEqual(done_to(sums(6, 6), "up", [4] * 300), [5] * 300)

    def test_of_drawn_algebras(self):
        chance = random.Random(12)
        for _ in range(100):
            algebra = drawn(chance)
            for name, told in algebra[4]:
                row = [chance.randrange(algebra[0]) for _ in range(chance.randint(0, 9))]
                count = 0 if algebra[1] == 1 else 1
                self.assertEqual(done_to(algebra, name, row), [told[count][value] for value in row])

    def test_a_new_list(self):
        for algebra, name in ((greatest(4), "stay"), (sums(6, 6), "up"), (sums(6, 1), "wipe")):
            kept = copy.deepcopy(algebra)
            for row in ([], [1], list(range(algebra[0]))):
                told = done_to(algebra, name, row)
                self.assertTrue(all(told is not other for other in lists_of(algebra) + [row]))
                again = copy.copy(told)
                told.append(99)
                self.assertEqual(done_to(algebra, name, row), again)
            self.assertEqual(algebra, kept)

    def test_done_to_each_is_done_to_what_they_come_to(self):
        chance = random.Random(13)
        for algebra in let_by():
            for name, told in algebra[4]:
                for many in range(14):
                    row = [chance.randrange(algebra[0]) for _ in range(many)]
                    whole = told[many % algebra[1]][joined(algebra, row)]
                    self.assertEqual(joined(algebra, done_to(algebra, name, row)), whole)


if __name__ == "__main__":
    unittest.main()
