import copy
import itertools
import random
import unittest

from stretchdeeds.coming import comes, coming, least_row
from stretchdeeds.errors import NotLetBy, StretchError
from tests.algsamples import drawn, first, greatest, last, let_by, lists_of, maps, plain_fault, single
from tests.algsamples import some_algebras, spoil_lists, sums
from tests.plainclasses import drawn_let_by, drawn_row, plain_done, plain_whole


def plain_pairs(algebra, row):
    """The pairs that can come, as they grow from one another till there is no new one."""
    n, m, join, nothing, deeds, _ = algebra
    found = {(nothing, 0)} | {(value, 1 % m) for value in row}
    while True:
        grown = {(rows[c][a], c) for _, rows in deeds for a, c in found}
        grown |= {(join[a][b], (c + d) % m) for (a, c), (b, d) in itertools.product(found, repeat=2)}
        if grown <= found:
            return found
        found |= grown


def plain_least_row(algebra, row, name):
    """Point 30: all rows in their order."""
    values = dict(algebra[5])[name]
    for many in range(algebra[0] + 1):
        for told in itertools.product(sorted(set(row)), repeat=many):
            if plain_whole(algebra, list(told)) in values:
                return list(told)
    return None


def drawn_values(chance, algebra, most=4):
    """A list of values, some of them perhaps twice, perhaps none."""
    row = drawn_row(chance, algebra, most)
    return row + [chance.choice(row)] if row and chance.random() < 0.3 else row


class ComingCase(unittest.TestCase):
    def follows(self, algebra, row, entries, at):
        """The pair that an entry tells of, by what it says how it comes."""
        n, m, join, nothing, deeds, _ = algebra
        how = entries[at][2]
        self.assertIs(type(how), tuple)
        for p in how[2:] if how[0] == "deed" else how[1:] if how[0] == "two" else ():
            self.assertIs(type(p), int)
            self.assertIn(p, range(at))
        if how[0] == "none":
            self.assertEqual(how, ("none",))
            return (nothing, 0)
        if how[0] == "one":
            self.assertEqual(len(how), 2)
            self.assertIn(how[1], row)
            return (how[1], 1 if m > 1 else 0)
        if how[0] == "deed":
            _, name, p = how
            return (dict(deeds)[name][entries[p][1]][entries[p][0]], entries[p][1])
        self.assertEqual(how[0], "two")
        _, p, q = how
        return (join[entries[p][0]][entries[q][0]], (entries[p][1] + entries[q][1]) % m)

    def holds_of(self, algebra, row, entries):
        """All that point 28 says of such a list."""
        self.assertIs(type(entries), list)
        pairs = []
        for at, entry in enumerate(entries):
            self.assertIs(type(entry), tuple)
            self.assertEqual(len(entry), 3)
            self.assertEqual([type(part) for part in entry[:2]], [int, int])
            self.assertEqual(entry[:2], self.follows(algebra, row, entries, at), (algebra, row))
            pairs.append(entry[:2])
        self.assertEqual(len(pairs), len(set(pairs)))
        self.assertEqual(set(pairs), plain_pairs(algebra, row), (algebra, row))

    def refused(self, what, asked, *told):
        kept = copy.deepcopy(told)
        with self.assertRaises(StretchError) as caught:
            asked(*told)
        self.assertIs(type(caught.exception), NotLetBy)
        self.assertEqual(caught.exception.what, what)
        self.assertEqual(told, kept)


class ComingTest(ComingCase):
    def test_written_out(self):
        self.assertEqual(coming(single(1), []), [(0, 0, ("none",))])
        algebra = (2, 1, [[0, 1], [1, 1]], 0, [], [])
        self.assertEqual(coming(algebra, [1, 1]), [(0, 0, ("none",)), (1, 0, ("one", 1))])

    def test_the_empty_list(self):
        for algebra in let_by():
            self.assertEqual(coming(algebra, []), [(algebra[3], 0, ("none",))])

    def test_known_pairs(self):
        pairs = lambda algebra, row: sorted(entry[:2] for entry in coming(algebra, row))
        plain = sums(6, 3)[:4] + ([], [])
        self.assertEqual(pairs(plain, [2]), [(0, 0), (2, 1), (4, 2)])
        self.assertEqual(pairs(plain, [3]), [(0, 0), (0, 1), (0, 2), (3, 0), (3, 1), (3, 2)])
        self.assertEqual(pairs(single(3), [0]), [(0, 0), (0, 1), (0, 2)])
        self.assertEqual(pairs(single(3), []), [(0, 0)])
        # By deeds alone: each one is lowered step by step.
        lowered = [(0, 0), (0, 1), (1, 0), (1, 1), (2, 0), (2, 1)]
        self.assertEqual(pairs(greatest(5, 2), [2]), lowered)
        self.assertEqual(pairs(greatest(5, 2)[:4] + ([], []), [2]), [(0, 0), (2, 0), (2, 1)])
        # A deed that hangs on the count.
        up = (2, 2, [[0, 1], [1, 0]], 0, [("up", [[0, 1], [1, 0]])], [])
        self.assertEqual(pairs(up, [0]), [(0, 0), (0, 1), (1, 0), (1, 1)])
        self.assertEqual(pairs(up[:4] + ([], []), [0]), [(0, 0), (0, 1)])
        # Nothing is the greatest number here, and comes of no values alone.
        self.assertEqual(pairs((3, 2, first(3)[2], 2, [], []), [0]), [(0, 0), (0, 1), (2, 0)])

    def test_both_orders_of_two(self):
        # Of these maps 3 and 1 come to 1 or 2, as one or the other goes ahead.
        algebra = maps(1)[:4] + ([], [])
        self.assertEqual(sorted(entry[:2] for entry in coming(algebra, [3, 1])), [(0, 0), (1, 0), (2, 0), (3, 0)])
        self.assertEqual(sorted(entry[:2] for entry in coming(algebra, [1, 3])), [(0, 0), (1, 0), (2, 0), (3, 0)])

    def test_drawn_ones(self):
        chance = random.Random(241)
        sorts = {"none": 0, "one": 0, "deed": 0, "two": 0}
        for algebra in let_by() + drawn_let_by(242, 400):
            for _ in range(3):
                row = drawn_values(chance, algebra)
                kept = copy.deepcopy((algebra, row))
                entries = coming(algebra, row)
                self.assertEqual((algebra, row), kept)
                self.holds_of(algebra, row, entries)
                for entry in entries:
                    sorts[entry[2][0]] += 1
        self.assertGreater(min(sorts.values()), 300, sorts)

    def test_values_told_twice(self):
        for algebra in drawn_let_by(243, 100):
            row = list(range(algebra[0])) * 2
            self.holds_of(algebra, row, coming(algebra, row))
            self.holds_of(algebra, [0] * 300, coming(algebra, [0] * 300))

    def test_drawn_rows_with_drawn_deeds(self):
        chance = random.Random(244)
        done = 0
        for algebra in drawn_let_by(245, 300):
            values = drawn_values(chance, algebra)
            pairs = {entry[:2] for entry in coming(algebra, values)}
            for _ in range(8):
                row = [chance.choice(values) for _ in range(chance.randint(0, 9))] if values else []
                for _ in range(chance.randint(0, 4)):
                    i, j = sorted(chance.randint(0, len(row)) for _ in range(2))
                    self.assertIn((plain_whole(algebra, row), len(row) % algebra[1]), pairs)
                    if algebra[4]:
                        row = plain_done(algebra, chance.choice(algebra[4])[0], row, i, j)
                        done += 1
                self.assertIn((plain_whole(algebra, row), len(row) % algebra[1]), pairs)
        self.assertGreater(done, 1000)

    def test_each_entry_has_a_row(self):
        chance = random.Random(246)
        for algebra in drawn_let_by(247, 200):
            values = drawn_values(chance, algebra)
            rows = []
            for value, c, how in coming(algebra, values):
                if how[0] == "none":
                    rows.append([])
                elif how[0] == "one":
                    rows.append([how[1]])
                elif how[0] == "deed":
                    rows.append(plain_done(algebra, how[1], rows[how[2]], 0, len(rows[how[2]])))
                else:
                    rows.append(rows[how[1]] + rows[how[2]])
                self.assertEqual((plain_whole(algebra, rows[-1]), len(rows[-1]) % algebra[1]), (value, c))

    def test_one_that_is_not_let_by(self):
        refused = 0
        for algebra in some_algebras(248, 300):
            fault = plain_fault(algebra)
            for row in ([], [0], list(range(algebra[0]))):
                if fault is None:
                    self.holds_of(algebra, row, coming(algebra, row))
                else:
                    self.refused(fault, coming, algebra, row)
                    refused += 1
        self.assertGreater(refused, 400)

    def test_the_told_list_is_the_askers_own(self):
        for algebra in drawn_let_by(249, 40) + [sums(6, 6)]:
            row = list(range(algebra[0]))
            told = coming(algebra, row)
            kept = copy.deepcopy((algebra, row, told))
            again = coming(algebra, row)
            self.assertIsNot(told, again)
            spoil_lists(again)
            self.assertEqual((algebra, row, told), kept)
            self.holds_of(algebra, row, coming(algebra, row))
            spoil_lists(algebra)
            spoil_lists(row)
            self.assertEqual(told, kept[2])

    def test_somewhat_beyond_the_bounds(self):
        self.holds_of(sums(9, 9), [1], coming(sums(9, 9), [1]))
        self.assertEqual(len(coming(sums(9, 9), [1, 2])), 81)


class ComesTest(ComingCase):
    def agrees(self, algebra, row, name):
        kept = copy.deepcopy((algebra, row))
        told = comes(algebra, row, name)
        self.assertEqual((algebra, row), kept)
        self.assertIs(type(told), tuple)
        values = dict(algebra[5])[name]
        self.holds_of(algebra, row, told[1])
        if any(value in values for value, _ in plain_pairs(algebra, row)):
            self.assertEqual((told[0], len(told)), ("comes", 3))
            self.assertIs(type(told[2]), int)
            self.assertIn(told[2], range(len(told[1])))
            self.assertIn(told[1][told[2]][0], values)
        else:
            self.assertEqual((told[0], len(told)), ("never", 2))
        return told[0]

    def test_written_out(self):
        algebra = (2, 1, [[0, 1], [1, 1]], 0, [], [("one", [1]), ("none", []), ("both", [0, 1])])
        none, one = (0, 0, ("none",)), (1, 0, ("one", 1))
        self.assertEqual(comes(algebra, [], "one"), ("never", [none]))
        self.assertEqual(comes(algebra, [1], "one"), ("comes", [none, one], 1))
        self.assertEqual(comes(algebra, [1], "none"), ("never", [none, one]))
        self.assertEqual(comes(algebra, [], "both"), ("comes", [none], 0))

    def test_known_ones(self):
        even = sums(6)[:4] + ([], [("one", [1]), ("four", [4])])
        self.assertEqual(self.agrees(even, [2], "one"), "never")
        self.assertEqual(self.agrees(even, [2], "four"), "comes")
        self.assertEqual(self.agrees(even, [5], "one"), "comes")
        self.assertEqual(self.agrees(greatest(5), [3], "top"), "never")
        self.assertEqual(self.agrees(last(5), [2], "set"), "comes")
        self.assertEqual(self.agrees(last(5)[:4] + ([], [("set", [1])]), [2], "set"), "never")

    def test_drawn_ones(self):
        chance = random.Random(251)
        counts = {"comes": 0, "never": 0}
        for algebra in drawn_let_by(252, 400):
            for name, _ in algebra[5]:
                counts[self.agrees(algebra, drawn_values(chance, algebra), name)] += 1
        self.assertGreater(min(counts.values()), 100, counts)

    def test_one_that_is_not_let_by(self):
        refused = 0
        for algebra in some_algebras(253, 200):
            fault = plain_fault(algebra)
            for name, _ in algebra[5]:
                if fault is None:
                    self.agrees(algebra, [0], name)
                else:
                    self.refused(fault, comes, algebra, [0], name)
                    refused += 1
        self.assertGreater(refused, 100)

    def test_the_told_list_is_the_askers_own(self):
        algebra = sums(4, 2)
        told, again = comes(algebra, [1], "odd"), comes(algebra, [1], "odd")
        kept = copy.deepcopy((algebra, told))
        self.assertIsNot(told[1], again[1])
        spoil_lists(again)
        self.assertEqual((algebra, told), kept)
        self.agrees(algebra, [1], "odd")


class LeastRowTest(unittest.TestCase):
    def agrees(self, algebra, row, name):
        kept = copy.deepcopy((algebra, row))
        told = least_row(algebra, row, name)
        self.assertEqual(told, plain_least_row(algebra, row, name), (algebra, row, name))
        self.assertEqual((algebra, row), kept)
        if told is not None:
            self.assertIs(type(told), list)
            self.assertLessEqual(len(told), algebra[0])
        return told

    def test_written_out(self):
        algebra = sums(8)[:5] + ([("seven", [7]), ("none", [0]), ("never", []), ("some", [3, 4])],)
        self.assertEqual(self.agrees(algebra, [1], "seven"), [1] * 7)
        self.assertEqual(self.agrees(algebra, [2], "seven"), None)
        self.assertEqual(self.agrees(algebra, [5, 4, 3], "seven"), [3, 4])
        self.assertEqual(self.agrees(algebra, [5, 2], "seven"), [2, 5])
        self.assertEqual(self.agrees(algebra, [7, 3, 4], "seven"), [7])
        self.assertEqual(self.agrees(algebra, [7, 3, 4], "none"), [])
        self.assertEqual(self.agrees(algebra, [], "none"), [])
        self.assertEqual(self.agrees(algebra, [], "seven"), None)
        self.assertEqual(self.agrees(algebra, [1, 2], "never"), None)
        self.assertEqual(self.agrees(algebra, [4, 3], "some"), [3])
        self.assertEqual(self.agrees(algebra, [2, 1, 1, 2], "some"), [1, 2])

    def test_nothing_is_joined_for_none_alone(self):
        # 1 behind nothing comes to 2, but 1 by itself stays.
        algebra = (3, 1, [[0, 2, 0], [1, 0, 1], [0, 0, 0]], 0, [], [("two", [2]), ("none", [0]), ("one", [1])])
        self.assertEqual(self.agrees(algebra, [1], "two"), [1, 1, 1])
        self.assertEqual(self.agrees(algebra, [1], "none"), [])
        self.assertEqual(self.agrees(algebra, [1], "one"), [1])
        self.assertEqual(self.agrees(algebra, [2], "two"), [2])

    def test_joined_from_the_first_one_on(self):
        algebra = (3, 1, [[0, 1, 2], [1, 0, 1], [2, 2, 0]], 0, [], [("two", [2])])
        self.assertEqual(self.agrees(algebra, [1, 2], "two"), [2])
        lead = (4, 1, [[0, 0, 0, 0], [0, 2, 0, 0], [0, 3, 0, 0], [0, 0, 0, 0]], 0, [], [("end", [3])])
        self.assertEqual(self.agrees(lead, [1], "end"), [1, 1, 1])
        # Joined from the last one on, that would come to something else.
        contrary = (4, 1, [list(column) for column in zip(*lead[2])], 0, [], [("end", [3])])
        self.assertEqual(self.agrees(contrary, [1], "end"), None)

    def test_the_least_of_equally_long_ones(self):
        # Both 1 2 and 2 1 come to 3, and so do, of those that are longer, many.
        join = [[0, 1, 2, 3], [1, 0, 3, 0], [2, 3, 0, 0], [3, 0, 0, 0]]
        algebra = (4, 1, join, 0, [], [("end", [3])])
        self.assertEqual(self.agrees(algebra, [2, 1], "end"), [1, 2])
        only = (4, 1, [[0, 1, 2, 3], [1, 0, 0, 0], [2, 3, 0, 0], [3, 0, 0, 0]], 0, [], [("end", [3])])
        self.assertEqual(self.agrees(only, [1, 2], "end"), [2, 1])

    def test_the_longest_there_is(self):
        for n in range(2, 9):
            join = [[a + 1 if a + 1 < n and a > 0 else 0 for _ in range(n)] for a in range(n)]
            algebra = (n, 1, join, 0, [], [("end", [n - 1])])
            self.assertEqual(self.agrees(algebra, [1], "end"), [1] * (n - 1))
        # Here nothing is no beginning: as many as there are values.
        join = [[1, 0], [0, 0]]
        self.assertEqual(self.agrees((2, 1, join, 1, [], [("one", [1])]), [0], "one"), [])
        ring = [[(a + 1) % 8] * 8 for a in range(8)]
        self.assertEqual(self.agrees((8, 1, ring, 3, [], [("end", [0])]), [1], "end"), [1] * 8)

    def test_deeds_are_not_done(self):
        self.assertEqual(self.agrees(last(4), [2], "set"), None)
        self.assertEqual(comes(last(4), [2], "set")[0], "comes")

    def test_drawn_ones(self):
        chance = random.Random(261)
        lengths = {}
        found = [drawn(chance) for _ in range(500)] + drawn_let_by(262, 200) + some_algebras(263, 200)
        for _ in range(300):
            # Of each value one other value leads on to the next, so that rows grow long.
            n = chance.randint(3, 8)
            leads = [chance.choice([0, 1]) for _ in range(n)]
            join = [[(a + 1) % n if b == leads[a] else chance.randint(0, a) for b in range(n)] for a in range(n)]
            found.append((n, 2, join, 0, [], [("end", [n - 1]), ("ends", [n - 2, n - 1])]))
        for algebra in found:
            for name, _ in algebra[5]:
                row = chance.choice([drawn_values(chance, algebra, 3)[:3], [1 % algebra[0], 0]])
                told = self.agrees(algebra, row, name)
                many = None if told is None else len(told)
                lengths[many] = lengths.get(many, 0) + 1
        for many in (None, 0, 1, 2, 3, 4, 5):
            self.assertGreater(lengths[many], 15, lengths)

    def test_all_values_of_small_ones(self):
        chance = random.Random(264)
        for _ in range(300):
            algebra = drawn(chance, 4)
            for name, _ in algebra[5]:
                self.agrees(algebra, chance.sample(range(algebra[0]), algebra[0]), name)

    def test_the_told_list_is_the_askers_own(self):
        algebra, row = sums(8)[:5] + ([("one", [1]), ("none", [0])],), [3]
        for name, told in (("one", [3, 3, 3]), ("none", [])):
            mine, again = least_row(algebra, row, name), least_row(algebra, row, name)
            self.assertEqual(mine, told)
            for yours in [again, row] + lists_of(algebra):
                self.assertIsNot(mine, yours)
            again.append(7)
            self.assertEqual((mine, row), (told, [3]))
            self.assertEqual(least_row(algebra, row, name), told)

    def test_somewhat_beyond_the_bounds(self):
        algebra = sums(12)[:5] + ([("end", [11])],)
        self.assertEqual(self.agrees(algebra, [1], "end"), [1] * 11)
        self.assertEqual(least_row(algebra, [1] * 400, "end"), [1] * 11)


if __name__ == "__main__":
    unittest.main()
