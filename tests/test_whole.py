"""The promise over the whole, point 4: what the parts of the program tell of one another."""

import itertools
import random
import unittest

from stretchdeeds.algebras import done_to, joined, what_fails
from stretchdeeds.algtexts import read_algebra, show_algebra
from stretchdeeds.alikes import framed, told_apart
from stretchdeeds.coming import comes, coming
from stretchdeeds.desk import Desk
from stretchdeeds.errors import NotLetBy, StretchError
from stretchdeeds.leasts import is_picture, least_algebra
from stretchdeeds.makes import Makes
from stretchdeeds.ways import Ways
from tests.algsamples import some_algebras
from tests.plainclasses import drawn_let_by, drawn_row, signs_of
from tests.plaindesk import PlainDesk, drawn_text, parsed, steps_told
from tests.plainways import PlainAlgebra, depth_of

NUMBERED = {"row": 1, "change": 3, "can": 2, "alike": 1}


def numbered(text, numbers):
    """The text with each value's number in its stead."""
    words = text.split(" ")
    start = NUMBERED.get(words[0], len(words))
    values = [word if int(word) >= len(numbers) else str(numbers[int(word)]) for word in words[start:]]
    return " ".join(words[:start] + values)


class LeastDeskTest(unittest.TestCase):
    def said(self, desk, text):
        try:
            return desk.say(text)
        except StretchError as refusal:
            return type(refusal)

    def answers_alike(self, text, told, beside, numbers):
        kind = text.split(" ")[0]
        if kind in ("show", "ask") and told != "-":
            self.assertEqual(" ".join(str(numbers[int(word)]) for word in told.split(" ")), beside, text)
        elif kind != "depth":
            self.assertEqual(told, beside, text)

    def frames_alike(self, algebra, least, numbers, told, beside, one, other):
        """A frame of the first desk tells the numbers apart, too; and the second one needs as many steps."""
        self.assertEqual(told.split(" ")[0], beside.split(" ")[0])
        self.assertEqual(len(told.split(" ")), len(beside.split(" ")))
        if told == "yes":
            return
        apart = []
        for steps in steps_told(algebra, told.split(" ")[2:]):
            steps = [step if step[0] == "deed" else (step[0], numbers[step[1]]) for step in steps]
            came = [framed(least, steps, numbers[value]) for value in (one, other)]
            apart.append(signs_of(least, came[0]) != signs_of(least, came[1]))
        self.assertIn(True, apart)

    def test_the_same_texts_at_both_desks(self):
        chance = random.Random(291)
        refused = parted = 0
        for algebra in drawn_let_by(292, 150):
            least, numbers = least_algebra(algebra)
            desk, other, plain = Desk(show_algebra(algebra)), Desk(show_algebra(least)), PlainDesk(algebra)
            parted += 1 < least[0] < algebra[0]
            for _ in range(40):
                text = drawn_text(chance, plain, 0.03)
                told, beside = self.said(desk, text), self.said(other, numbered(text, numbers))
                if isinstance(told, type):
                    self.assertIs(told, beside, text)
                    refused += 1
                elif text.startswith("alike"):
                    self.frames_alike(algebra, least, numbers, told, beside, *parsed(text)[1])
                else:
                    plain.say(text)
                    self.answers_alike(text, told, beside, numbers)
            for make, row in enumerate(plain.rows):
                self.assertEqual(desk.say(f"show {make}"), " ".join(map(str, row)) or "-")
                self.assertEqual(other.say(f"show {make}"), " ".join(str(numbers[value]) for value in row) or "-")
        self.assertGreater(refused, 200)
        self.assertGreater(parted, 15)


class TogetherTest(unittest.TestCase):
    def test_let_by_or_refused_everywhere(self):
        counts = {True: 0, False: 0}
        for algebra in some_algebras(293, 150) + drawn_let_by(294, 60):
            what = what_fails(algebra)
            counts[what is None] += 1
            asked = [
                lambda: Ways(algebra), lambda: least_algebra(algebra), lambda: coming(algebra, [0]),
                lambda: Desk(show_algebra(algebra)),
            ]
            asked += [lambda name=name: comes(algebra, [0], name) for name, _ in algebra[5]]
            for ask in asked:
                if what is None:
                    ask()
                    continue
                with self.assertRaises(NotLetBy) as caught:
                    ask()
                self.assertEqual(caught.exception.what, what)
        self.assertGreater(min(counts.values()), 60, counts)

    def test_a_refusal_shows_two_answers(self):
        shown = {"nothing": 0, "parting": 0, "empty": 0, "doing": 0}
        for algebra in some_algebras(295, 400):
            what = what_fails(algebra)
            if what is None:
                continue
            shown[what[0]] += 1
            join, nothing, deeds = algebra[2], algebra[3], dict(algebra[4])
            if what[0] == "nothing":
                self.assertNotEqual((join[nothing][what[1]], join[what[1]][nothing]), (what[1], what[1]))
            elif what[0] == "parting":
                _, a, b, c = what
                self.assertNotEqual(joined(algebra, [a, b, c]), joined(algebra, [a, joined(algebra, [b, c])]))
            elif what[0] == "empty":
                self.assertNotEqual(deeds[what[1]][0][nothing], nothing)
            else:
                _, name, a, i, b, j = what
                rows = deeds[name]
                together = rows[(i + j) % algebra[1]][joined(algebra, [a, b])]
                self.assertNotEqual(together, joined(algebra, [rows[i][a], rows[j][b]]))
        self.assertGreater(min(shown.values()), 10, shown)

    def test_deeds_done_to_what_comes_and_to_each_value(self):
        chance = random.Random(296)
        for algebra in drawn_let_by(297, 150):
            row = drawn_row(chance, algebra)
            for place in range(len(row) + 1):
                parts = [joined(algebra, row[:place]), joined(algebra, row[place:])]
                self.assertEqual(joined(algebra, parts), joined(algebra, row))
            for name, rows in algebra[4]:
                done = rows[len(row) % algebra[1]][joined(algebra, row)]
                self.assertEqual(joined(algebra, done_to(algebra, name, row)), done)

    def test_what_comes_at_a_desk_is_in_the_closed_list(self):
        chance = random.Random(298)
        for algebra in drawn_let_by(299, 100):
            values = drawn_row(chance, algebra, 3)
            pairs = {entry[:2] for entry in coming(algebra, values)}
            makes = Makes(Ways(algebra))
            makes.made([])
            for _ in range(20):
                row = [chance.choice(values) for _ in range(chance.randint(0, 5))] if values else []
                make = makes.put_in(chance.randrange(makes.made(row)), 0, makes.made(row))
                if algebra[4]:
                    i, j = sorted(chance.randint(0, makes.many(make)) for _ in range(2))
                    make = makes.done(make, i, j, chance.choice(algebra[4])[0])
                many = makes.many(make)
                self.assertIn((makes.asked(make, 0, many), many % algebra[1]), pairs)

    def test_makes_with_the_same_row_answer_alike(self):
        chance = random.Random(300)
        for algebra in drawn_let_by(301, 80):
            desk, plain = Desk(show_algebra(algebra)), PlainDesk(algebra)
            for _ in range(30):
                text = drawn_text(chance, plain, 0)
                if not plain.due(text):
                    desk.say(text)
                    plain.say(text)
            for make, row in list(enumerate(plain.rows)):
                fresh = desk.say(" ".join(["row"] + [str(value) for value in row]))
                texts = ["show {}", f"ask {{}} 0 {len(row)}", f"ask {{}} {len(row) // 2} {len(row)}"]
                texts += [f"first {{}} {i} {name}" for name, _ in algebra[5] for i in (0, len(row) // 3)]
                for text in texts:
                    self.assertEqual(desk.say(text.format(make)), desk.say(text.format(fresh)))

    def test_each_walk_is_even(self):
        chance = random.Random(302)
        for algebra in drawn_let_by(303, 40):
            makes, plain = Makes(Ways(algebra)), PlainDesk(algebra)
            asked = {"row": makes.made, "do": makes.done, "turn": makes.turned, "change": makes.changed, "put": makes.put_in}
            for _ in range(40):
                text = drawn_text(chance, plain, 0)
                kind, said = parsed(text)
                if kind in asked and not plain.due(text):
                    asked[kind](*said)
                    plain.say(text)
            for make, row in enumerate(plain.rows):
                depth_of(self, PlainAlgebra(algebra), makes.walk(make), row)

    def test_the_least_algebra_as_a_text_and_as_a_picture(self):
        for algebra in drawn_let_by(304, 150):
            least, numbers = least_algebra(algebra)
            self.assertEqual(read_algebra(show_algebra(least)), least)
            self.assertTrue(is_picture(algebra, least, numbers))
            for one, other in itertools.product(range(algebra[0]), repeat=2):
                alike = told_apart(algebra, one, other)[0] == "alike"
                self.assertEqual(alike, numbers[one] == numbers[other])


if __name__ == "__main__":
    unittest.main()
