import random
import unittest

from stretchdeeds.terms import is_term, worth
from tests.samples import ALL, PAIRS, ZERO, Unasked, depth, leaning, shaken, size, some_terms, wide

A = ("name", "a")
B = ("name", "b")
C = ("name", "c")
ONE = ("number", 1)


def plainly_term(thing, names):
    """Point 5 once more, told another way: well formed at all, then both bounds."""
    return well_formed(thing, names) and size(thing) <= 40 and depth(thing) <= 12


def well_formed(thing, names):
    if not isinstance(thing, tuple) or not thing or not isinstance(thing[0], str):
        return False
    if thing[0] == "number":
        return len(thing) == 2 and type(thing[1]) is int and thing[1] >= 0 and len(str(thing[1])) <= 60
    if thing[0] == "name":
        return len(thing) == 2 and type(thing[1]) is str and thing[1] in [x for x in names if x in ALL]
    many = {"same": 5}.get(thing[0], 3 if thing[0] in PAIRS else None)
    return len(thing) == many and all(well_formed(part, names) for part in thing[1:])


class IsTermTest(unittest.TestCase):
    def yes(self, thing, names=ALL):
        self.assertIs(is_term(thing, list(names)), True, thing)

    def no(self, thing, names=ALL):
        self.assertIs(is_term(thing, list(names)), False, repr(thing)[:200])

    def test_each_sort(self):
        self.yes(("number", 7))
        self.yes(A)
        for word in PAIRS:
            self.yes((word, A, ONE))
            self.yes((word, (word, A, B), (word, C, ONE)))
        self.yes(("same", A, B, ONE, ("same", A, A, A, A)))

    def test_numbers(self):
        for k in (0, 1, 10 ** 59, 10 ** 60 - 1):
            self.yes(("number", k))
            self.yes(("add", ("number", k), A))
        for k in (10 ** 60, 10 ** 61, -1, -(10 ** 59), True, False, 1.0, "1", None, [1], (1,)):
            self.no(("number", k))
            self.no(("add", A, ("number", k)))

    def test_names_let_and_not_let(self):
        for letter in ALL:
            self.yes(("name", letter), [letter])
            self.yes(("name", letter), ALL + ALL)
            self.no(("name", letter), [])
            self.no(("name", letter), [other for other in ALL if other != letter])
            self.no(("add", ONE, ("name", letter)), [other for other in ALL if other != letter])
        self.yes(("add", A, C), ["c", "a"])
        self.yes(("same", ONE, ONE, ONE, ONE), [])

    def test_other_letters(self):
        for other in ("d", "z", "A", "", "ab", "abc", "a ", "\n", "number"):
            self.no(("name", other))
            self.no(("name", other), ALL + [other])

    def test_no_letters(self):
        for other in (None, True, 0, 1, ["a"], ("a",), {"a": 1}, {"a"}, b"a", 1.5, A):
            self.no(("name", other))
            self.no(("add", ("name", other), A))

    def test_other_kinds(self):
        things = (
            None, True, False, 0, 1, -1, 1.5, "", "a", "add", "number", b"a", [], {}, set(), frozenset(), object(),
            int, len, range(3), [1], {"number": 1}, ValueError(), float("nan"), (), ((),),
        )
        for thing in things:
            self.no(thing)
            self.no(("add", thing, A))
            self.no(("add", A, thing))
            self.no(("same", A, A, A, thing))
            self.no((thing,))
            if thing not in ("add", "number"):
                self.no((thing, A, A))
                self.no((thing, 1))

    def test_things_that_cannot_be_compared(self):
        for thing in (Unasked(), ("number", Unasked()), ("name", Unasked()), (Unasked(), 1), (Unasked(), A, A)):
            self.assertIs(is_term(thing, ALL), False)
            self.assertIs(is_term(("add", A, thing), ALL), False)

    def test_too_few_and_too_many_parts(self):
        for word in ["number", "name", "same", "neither"] + PAIRS:
            for part in (A, "a", 1):
                for many in range(8):
                    thing = (word,) + (part,) * many
                    right = (word, many, part) in [("number", 1, 1), ("name", 1, "a"), ("same", 4, A)]
                    right = right or (word in PAIRS and many == 2 and part == A)
                    self.assertIs(is_term(thing, ALL), right, thing)
                    self.assertIs(is_term(("add", A, thing), ALL), right, thing)

    def test_lists_in_a_tuples_stead(self):
        self.no(["number", 1])
        self.no(["name", "a"])
        self.no(["add", A, B])
        self.no(("add", ["name", "a"], B))
        self.no(("add", A, ["number", 1]))
        self.no(("same", A, B, A, list(B)))

    def test_unknown_first_words(self):
        for word in ("", "neither", "Add", "add ", "numbers", "sum", "a", "1"):
            self.no((word, A, B))
            self.no((word, 1))
            self.no((word, "a"))
            self.no(("add", (word, A, B), A))
            self.no(("same", A, A, A, (word, A, B)))

    def test_how_many_terms(self):
        # All words but number and name want an even number of terms, so no term has just forty.
        self.assertEqual((size(wide(19)), size(wide(20))), (39, 41))
        self.yes(wide(19))
        self.no(wide(20))
        self.yes(("same", wide(8), wide(8), ONE, ("add", ONE, A)))
        self.no(("same", wide(8), wide(8), ("add", ONE, A), ("add", ONE, A)))
        self.no(("same", ("same",) + (wide(4),) * 4, A, A, A))

    def test_how_deep(self):
        for side in ("left", "right"):
            for deep in range(13):
                self.yes(leaning(deep, side))
            for deep in (13, 14, 19, 20, 59, 60):
                self.no(leaning(deep, side))
        deep = A
        for _ in range(9):
            deep = ("same", A, A, deep, A)
        self.yes(deep)
        self.yes(("add", deep, A))
        self.no(("same", deep, A, A, A))

    def test_nested_sixty_deep(self):
        as_list, as_tuple, as_dict = [], (), {}
        for _ in range(59):
            as_list, as_tuple, as_dict = [as_list], ("add", as_tuple, ZERO), {"add": as_dict}
        for thing in (as_list, as_tuple, as_dict):
            self.no(thing)
            self.no(("number", thing))
            self.no(("name", thing))
            self.no(("add", A, thing))
            self.no((thing, A, A))

    def test_two_thousand_parts(self):
        for thing in ((A,) * 2000, ("add",) + (A,) * 1999, [A] * 2000, wide(999), ("a",) * 2000, "a" * 2000):
            self.no(thing)
            self.no(("add", A, thing))
            self.no(("name", thing))
            self.no((thing, A))

    def test_against_the_point_told_another_way(self):
        chance = random.Random(5)
        answers = {True: 0, False: 0}
        for names in (ALL, ["a", "b"], ["c"], []):
            for term in some_terms(7, 400, deep=4, most=60):
                for thing in (term, shaken(chance, term, ALL), shaken(chance, shaken(chance, term, ALL), ALL)):
                    told = is_term(thing, list(names))
                    self.assertIs(told, plainly_term(thing, names), thing)
                    answers[told] = answers[told] + 1
        self.assertGreater(min(answers.values()), 300)

    def test_nothing_handed_in_is_changed(self):
        names = ["b", "a"]
        inner = [A]
        thing = ("add", inner, B)
        self.no(thing, names)
        self.assertIs(is_term(("add", A, B), names), True)
        self.assertEqual((names, thing, inner), (["b", "a"], ("add", [A], B), [A]))


def plain_worth(term, n, numbers):
    """Point 6 once more: all parts' worths first, then by the word."""
    if term[0] in ("number", "name"):
        return (term[1] if term[0] == "number" else numbers[term[1]]) % n
    worths = [plain_worth(part, n, numbers) for part in term[1:]]
    table = {
        "add": lambda: sum(worths), "take": lambda: worths[0] - worths[1], "times": lambda: worths[0] * worths[1],
        "most": lambda: sorted(worths)[-1], "least": lambda: sorted(worths)[0],
        "same": lambda: worths[2 + (worths[0] != worths[1])],
    }
    return table[term[0]]() % n


class WorthTest(unittest.TestCase):
    def test_each_sort(self):
        numbers = {"a": 3, "b": 5, "c": 1}
        cases = [
            (("number", 4), 4), (("number", 7), 0), (("number", 23), 2), (A, 3), (B, 5), (C, 1),
            (("add", A, B), 1), (("take", B, A), 2), (("take", A, B), 5), (("times", A, B), 1),
            (("most", A, B), 5), (("most", B, A), 5), (("least", A, B), 3), (("least", B, A), 3),
            (("same", A, A, B, C), 5), (("same", A, B, B, C), 1),
        ]
        for term, told in cases:
            self.assertEqual(worth(term, 7, numbers), told, term)

    def test_by_one_all_is_nought(self):
        for term in some_terms(1, 50):
            self.assertEqual(worth(term, 1, {"a": 0, "b": 9, "c": 10 ** 59}), 0)

    def test_of_sixty_figures(self):
        n = 10 ** 60 - 1
        numbers = {"a": 10 ** 60 - 2, "b": 3, "c": 10 ** 60 - 1}
        self.assertEqual(worth(A, n, numbers), n - 1)
        self.assertEqual(worth(C, n, numbers), 0)
        self.assertEqual(worth(("add", A, B), n, numbers), 2)
        self.assertEqual(worth(("times", A, B), n, numbers), n - 3)
        self.assertEqual(worth(("times", A, A), n, numbers), 1)
        self.assertEqual(worth(("take", B, A), n, numbers), 4)
        self.assertEqual(worth(("number", n), n, {}), 0)
        self.assertEqual(worth(("number", n - 1), n, {}), n - 1)

    def test_take_where_the_second_is_greater(self):
        for n in range(1, 9):
            for a in range(12):
                for b in range(12):
                    told = worth(("take", A, B), n, {"a": a, "b": b})
                    self.assertEqual(told, (a - b) % n)
                    self.assertIn(told, range(n))

    def test_names_numbers_beyond_n(self):
        self.assertEqual(worth(A, 5, {"a": 5}), 0)
        self.assertEqual(worth(A, 5, {"a": 13}), 3)
        self.assertEqual(worth(A, 5, {"a": 10 ** 59 + 4}), 4)
        # By their rests 5 is less than 4, and the same as 10.
        self.assertEqual(worth(("most", A, B), 5, {"a": 5, "b": 4}), 4)
        self.assertEqual(worth(("least", A, B), 5, {"a": 5, "b": 4}), 0)
        self.assertEqual(worth(("same", A, B, ONE, ZERO), 5, {"a": 5, "b": 10}), 1)

    def test_each_step_is_the_rest(self):
        numbers = {"a": 3, "b": 2}
        total = ("add", A, B)
        self.assertEqual(worth(("most", total, ONE), 4, numbers), 1)
        self.assertEqual(worth(("least", total, B), 5, numbers), 0)
        self.assertEqual(worth(("most", ("times", A, B), ONE), 6, numbers), 1)
        self.assertEqual(worth(("most", ("take", B, A), ONE), 6, numbers), 5)
        self.assertEqual(worth(("same", total, ZERO, A, B), 5, numbers), 3)
        self.assertEqual(worth(("same", ("number", 9), A, A, B), 6, numbers), 3)
        self.assertEqual(worth(("most", ("number", 7), ("number", 6)), 7, {}), 6)
        self.assertEqual(worth(("least", ("number", 7), ("number", 6)), 7, {}), 0)
        self.assertEqual(worth(("same", ZERO, ZERO, ("number", 7), ZERO), 5, {}), 2)
        self.assertEqual(worth(("same", ZERO, ONE, ZERO, ("number", 7)), 5, {}), 2)

    def test_against_the_point_told_another_way(self):
        chance = random.Random(6)
        for term in some_terms(8, 400):
            for n in (1, 2, 3, 8, chance.randrange(1, 60), chance.randrange(1, 10 ** 60)):
                numbers = {letter: chance.choice([chance.randrange(9), chance.randrange(10 ** 60)]) for letter in ALL}
                told = worth(term, n, numbers)
                self.assertIs(type(told), int)
                self.assertTrue(0 <= told < n)
                self.assertEqual(told, plain_worth(term, n, numbers), (term, n, numbers))

    def test_somewhat_beyond_the_bounds(self):
        self.assertEqual(worth(wide(30), 1000, {"a": 2}), 62)
        self.assertEqual(worth(leaning(20, "left"), 5, {}), 0)
        self.assertEqual(worth(("number", 10 ** 61 + 3), 10, {}), 3)

    def test_nothing_handed_in_is_changed(self):
        numbers = {"c": 9, "a": 8, "b": 7}
        term = ("same", A, ("add", B, ONE), ("times", C, A), B)
        self.assertEqual(worth(term, 8, numbers), 0)
        self.assertEqual(list(numbers.items()), [("c", 9), ("a", 8), ("b", 7)])
        self.assertEqual(term, ("same", A, ("add", B, ONE), ("times", C, A), B))


if __name__ == "__main__":
    unittest.main()
