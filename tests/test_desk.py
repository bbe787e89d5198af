import random
import unittest

from stretchdeeds.algtexts import show_algebra
from stretchdeeds.desk import Desk
from stretchdeeds.errors import NoDeed, NoMake, NoRow, NoSign, NoStretch, NotLetBy, NoText, NoValue, StretchError, TooGreat
from stretchdeeds.makes import Makes
from stretchdeeds.ways import Ways
from tests.algsamples import let_by, maps, plain_fault, single, some_algebras, sums
from tests.plainclasses import NAMES, chain, drawn_let_by
from tests.plaindesk import FORMS, PlainDesk, check_alike, check_depth, drawn_text, parsed, spoiled

THIRDS = "values 3 around 3\njoin add a b\nnothing 0\ndeed up add a c\ndeed wipe 0\nsign none 0\nsign two 2"


class DeskCase(unittest.TestCase):
    def refused(self, error, asked, *told):
        with self.assertRaises(StretchError) as caught:
            asked(*told)
        self.assertIs(type(caught.exception), error, repr(told)[:200])
        return caught.exception

    def told(self, desk, plain, text):
        """Tells a text to the desk and holds what comes against the plain desk; the refusal, or None, is given back."""
        due = plain.due(text)
        if due:
            self.refused(due[0], desk.say, text)
            return due[0]
        answer = desk.say(text)
        self.assertIs(type(answer), str)
        kind, said = parsed(text)
        if kind == "depth":
            check_depth(self, answer, len(plain.rows[said[0]]))
        elif kind == "alike":
            check_alike(self, plain.algebra, answer, *said)
        else:
            self.assertEqual(answer, plain.say(text), (plain.algebra, text))
        return None

    def stayed(self, desk, plain):
        """Each make is as it was, and no other one is there."""
        for make, row in enumerate(plain.rows):
            self.assertEqual(desk.say(f"show {make}"), " ".join(map(str, row)) or "-")
        self.refused(NoMake, desk.say, f"show {len(plain.rows)}")


class EachTextTest(DeskCase):
    def test_one_behind_the_other(self):
        desk = Desk(THIRDS)
        told = [
            ("row", "0"), ("show 0", "-"), ("depth 0", "0"), ("ask 0 0 0", "0"), ("first 0 0 none", "none"),
            ("row 2", "1"), ("show 1", "2"), ("depth 1", "0"), ("ask 1 0 1", "2"), ("first 1 0 two", "0"),
            ("row 1 2 2 1", "2"), ("show 2", "1 2 2 1"), ("ask 2 0 4", "0"), ("ask 2 1 3", "1"), ("ask 2 4 4", "0"),
            ("depth 2", "2"), ("first 2 0 none", "1"), ("first 2 2 none", "3"), ("first 2 3 none", "none"),
            ("first 2 4 none", "none"), ("do 2 1 3 up", "3"), ("show 3", "1 0 0 1"), ("do 3 0 4 wipe", "4"),
            ("show 4", "0 0 0 0"), ("do 3 2 2 up", "5"), ("show 5", "1 0 0 1"), ("turn 2 0 2", "6"),
            ("show 6", "2 1 2 1"), ("change 6 3 0", "7"), ("show 7", "2 1 2 0"), ("put 7 1 1", "8"),
            ("show 8", "2 2 1 2 0"), ("put 8 5 8", "9"), ("show 9", "2 2 1 2 0 2 2 1 2 0"), ("put 1 0 0", "10"),
            ("show 10", "2"), ("cut 8 1 4", "11 12"), ("show 11", "2 1 2"), ("show 12", "2 0"), ("cut 8 0 5", "13 14"),
            ("show 13", "2 2 1 2 0"), ("show 14", "-"), ("cut 0 0 0", "15 16"), ("show 15", "-"), ("show 2", "1 2 2 1"),
        ]
        for text, answer in told:
            self.assertEqual(desk.say(text), answer, text)

    def test_can(self):
        desk = Desk("values 6 around 1\njoin add a b\nnothing 0\nsign one 1\nsign four 4\nsign none 0\nsign never")
        told = [
            ("can one", "never"), ("can none", "comes"), ("can one 2", "never"), ("can four 2", "comes"),
            ("can one 5", "comes"), ("can one 2 4 0 2", "never"), ("can one 2 3", "comes"), ("can never 1 2 3 4 5 0", "never"),
            ("can one" + " 2" * 1000, "never"), ("can one" + " 2" * 1000 + " 3", "comes"),
        ]
        for text, answer in told:
            self.assertEqual(desk.say(text), answer, text)
        self.refused(NoMake, desk.say, "show 0")

    def test_can_by_deeds(self):
        desk = Desk(THIRDS)
        self.assertEqual(desk.say("can two 0"), "comes")
        self.assertEqual(desk.say("can two"), "never")
        self.assertEqual(Desk(THIRDS.replace("deed up add a c\n", "")).say("can two 0"), "never")

    def test_alike(self):
        text = "values 4 around 1\njoin most a b\nnothing 0\ndeed on rows 0 2 3 3\nsign end 3"
        desk = Desk(text)
        self.assertEqual(desk.say("alike 3 0"), "no end")
        self.assertEqual(desk.say("alike 2 0"), "no end on:0")
        self.assertEqual(desk.say("alike 1 2"), "no end on:0")
        self.assertEqual(desk.say("alike 0 1"), "no end on:0 on:0")
        self.assertEqual(desk.say("alike 1 1"), "yes")
        bare = Desk(text.replace("deed on rows 0 2 3 3\n", ""))
        self.assertEqual(bare.say("alike 0 1"), "yes")
        self.assertEqual(bare.say("alike 3 1"), "no end")

    def test_alike_by_sides(self):
        # 0 is nothing, 1 and 2 stay whatever stands behind them, 3 exchanges them where they stand behind it.
        join = "rows 0 1 2 3, 1 1 1 1, 2 2 2 2, 3 2 1 0"
        desk = Desk(f"values 4 around 1\njoin {join}\nnothing 0\nsign one 1")
        self.assertEqual(desk.say("alike 1 2"), "no one")
        self.assertIn(desk.say("alike 0 3"), ["no one right:1", "no one right:2"])
        # The same the other way round.
        desk = Desk("values 4 around 1\njoin rows 0 1 2 3, 1 1 2 2, 2 1 2 1, 3 1 2 0\nnothing 0\nsign one 1")
        self.assertIn(desk.say("alike 0 3"), ["no one left:1", "no one left:2"])

    def test_alike_by_deeds_called_left_and_right(self):
        for name in ("left", "right", "deed", "alike"):
            desk = Desk(f"values 4 around 1\njoin most a b\nnothing 0\ndeed {name} rows 0 2 3 3\nsign {name} 3")
            self.assertEqual(desk.say("alike 0 1"), f"no {name} {name}:0 {name}:0")

    def test_alike_tells_the_count(self):
        # Values 0 to 2 and, odd ones, 3 to 5; the deed leads on, and of an odd number of values to the other three.
        join = ", ".join(" ".join(str((a // 3 + b // 3) % 2 * 3 + max(a % 3, b % 3)) for b in range(6)) for a in range(6))
        desk = Desk(f"values 6 around 2\njoin rows {join}\nnothing 0\ndeed on rows 0 2 2 3 5 5, 3 5 5 0 2 2\nsign end 5")
        self.assertEqual(desk.say("alike 0 1"), "no end on:1")
        self.assertEqual(desk.say("alike 4 3"), "no end on:0")
        algebra = maps(2)[:5] + ([("swap", [3])],)
        desk = Desk(show_algebra(algebra))
        for one in range(4):
            for other in range(4):
                check_alike(self, algebra, desk.say(f"alike {one} {other}"), one, other)

    def test_deeds_and_signs_named_like_words_of_the_desk(self):
        words = list(FORMS) + ["left", "right", "comes", "never", "yes", "no", "none", "rows", "deed", "sign", "values"]
        for name in words:
            lines = ["values 3 around 1", "join most a b", "nothing 0", f"deed {name} rows 0 2 2", f"sign {name} 2"]
            desk = Desk("\n".join(lines))
            told = [
                ("row 1 0 1", "0"), (f"do 0 0 2 {name}", "1"), ("show 1", "2 0 1"), (f"first 1 0 {name}", "0"),
                (f"first 0 0 {name}", "none"), (f"can {name}", "never"), (f"can {name} 1", "comes"),
                ("alike 0 2", f"no {name}"), ("alike 0 1", f"no {name} {name}:0"),
            ]
            for text, answer in told:
                self.assertEqual(desk.say(text), answer, text)

    def test_as_many_values_as_there_may_be(self):
        desk = Desk(THIRDS)
        row = [k * k % 3 for k in range(300)]
        self.assertEqual(desk.say("row " + " ".join(map(str, row))), "0")
        self.assertEqual(desk.say("show 0"), " ".join(map(str, row)))
        self.assertEqual(desk.say("ask 0 0 300"), str(sum(row) % 3))
        self.assertEqual(desk.say("turn 0 0 300"), "1")
        self.assertEqual(desk.say("show 1"), " ".join(map(str, row[::-1])))
        check_depth(self, desk.say("depth 0"), 300)
        self.assertIn(int(desk.say("depth 0")), range(9, 12))
        self.assertEqual(desk.say("cut 0 100 250"), "2 3")
        check_depth(self, desk.say("depth 3"), 150)
        self.assertEqual(desk.say("put 3 150 2"), "4")
        self.assertEqual(desk.say("show 4"), " ".join(map(str, row[:100] + row[250:] + row[100:250])))

    def test_three_hundred_makes_and_somewhat_more(self):
        desk = Desk(THIRDS)
        for make in range(320):
            self.assertEqual(desk.say(f"row {make % 3}"), str(make))
        for make in range(320):
            self.assertEqual(desk.say(f"show {make}"), str(make % 3))

    def test_two_desks_keep_apart(self):
        one, other = Desk(THIRDS), Desk(THIRDS)
        self.assertEqual([one.say("row 1"), one.say("row 2"), other.say("row 0")], ["0", "1", "0"])
        self.assertEqual([one.say("show 0"), other.say("show 0")], ["1", "0"])
        self.refused(NoMake, other.say, "show 1")


class DrawnTest(DeskCase):
    def test_drawn_texts_beside_plain_rows(self):
        chance = random.Random(271)
        counts = {}
        for algebra in drawn_let_by(272, 120):
            desk, plain = Desk(show_algebra(algebra)), PlainDesk(algebra)
            if chance.random() < 0.3:
                self.told(desk, plain, "row" + " 0" * chance.randint(250, 300))
            for _ in range(50):
                text = drawn_text(chance, plain)
                refusal = self.told(desk, plain, text)
                key = refusal.__name__ if refusal else text.split(" ")[0]
                counts[key] = counts.get(key, 0) + 1
            self.stayed(desk, plain)
        for kind in list(FORMS) + ["NoMake", "NoStretch", "NoValue", "NoDeed", "NoSign", "TooGreat"]:
            self.assertGreater(counts[kind], 10, counts)

    def test_drawn_changes_of_texts(self):
        chance = random.Random(273)
        counts = {}
        for algebra in drawn_let_by(274, 60):
            desk, plain = Desk(show_algebra(algebra)), PlainDesk(algebra)
            for _ in range(60):
                text = drawn_text(chance, plain, 0.02)
                refusal = self.told(desk, plain, spoiled(chance, text) if chance.random() < 0.7 else text)
                counts[refusal] = counts.get(refusal, 0) + 1
            self.stayed(desk, plain)
        self.assertGreater(counts[NoRow], 1000, counts)
        self.assertGreater(counts[None], 800, counts)

    def test_beside_a_set_of_makes(self):
        chance = random.Random(275)
        for algebra in drawn_let_by(276, 60):
            desk, plain, makes = Desk(show_algebra(algebra)), PlainDesk(algebra), Makes(Ways(algebra))
            asked = {
                "row": makes.made, "do": makes.done, "turn": makes.turned, "change": makes.changed, "put": makes.put_in,
                "cut": makes.cut, "show": makes.listed, "ask": makes.asked, "first": makes.first,
            }
            for _ in range(60):
                text = drawn_text(chance, plain)
                kind, said = parsed(text)
                if kind not in asked:
                    continue
                try:
                    answer = asked[kind](*said)
                except StretchError as refusal:
                    self.refused(type(refusal), desk.say, text)
                    continue
                plain.say(text)
                if kind in ("show", "cut"):
                    answer = " ".join(map(str, answer)) or "-"
                self.assertEqual(desk.say(text), "none" if answer is None else str(answer))
            for make, row in enumerate(plain.rows):
                self.assertEqual(makes.listed(make), row)
                self.assertEqual(desk.say(f"ask {make} 0 {len(row)}"), str(makes.asked(make, 0, len(row))))


class NoRowTest(DeskCase):
    GOOD = [
        "row", "row 1", "row 1 2 0", "do 0 0 1 up", "turn 0 0 1", "change 0 0 1", "put 0 0 0", "cut 0 0 1", "show 0",
        "ask 0 0 1", "first 0 0 none", "depth 0", "can none", "can none 1", "can none 1 2 0", "alike 0 1",
    ]

    def none_of_those(self, texts):
        desk, plain = Desk(THIRDS), PlainDesk(sums(3, 3))
        desk.say("row 1 2 0")
        plain.say("row 1 2 0")
        for text in texts:
            self.refused(NoRow, desk.say, text)
            self.assertEqual(plain.due(text), [NoRow], text)
        self.stayed(desk, plain)

    def test_good_ones(self):
        for text in self.GOOD:
            desk = Desk(THIRDS)
            desk.say("row 1 2 0")
            self.assertIs(type(desk.say(text)), str)

    def test_other_words(self):
        self.none_of_those([
            "", " ", "\n", "-", "0", "up", "none", "rows", "rows 1", "Row 1", "ROW", "roW", "make 1", "made 1", "list 0",
            "many 0", "walk 0", "done 0 0 1 up", "turned 0 0 1", "cuts 0 0 1", "shows 0", "asked 0 0 1", "comes none 1",
            "never none", "yes", "no", "left:1", "values 3 around 3", "sign none", "deed up", "doo 0 0 1 up", "d 0 0 1 up",
            "first0 0 none", "show0", "show-0", "row,1", "row:1", "get 0", "say 0", "alikes 0 1", "put_in 0 0 0",
        ])

    def test_too_few_and_too_many(self):
        texts = []
        for text in self.GOOD:
            words = text.split(" ")
            if words[0] in ("row", "can"):
                continue
            texts += [" ".join(words[:k]) for k in range(len(words))]
            texts += [text + more for more in (" 0", " 1", " up", " none", " 0 0", " up up")]
        self.none_of_those(texts + ["can", "can 1", "can 1 none"])

    def test_blanks(self):
        texts = []
        for text in self.GOOD:
            texts += [" " + text, text + " ", "  " + text, text + "  ", " " + text + " "]
            for place in [k for k, sign in enumerate(text) if sign == " "]:
                texts += [text[:place] + between + text[place + 1:] for between in ("  ", "\t", "\n", "", " \n", "\n ", ",", "\u00a0")]
        # Without the blank at all some are a text of another form.
        self.none_of_those([text for text in texts if parsed(text) is None])

    def test_line_ends(self):
        texts = [text + "\n" for text in self.GOOD] + ["\n" + text for text in self.GOOD]
        self.none_of_those(texts + [text + "\n" + text for text in self.GOOD] + [text + "\r" for text in self.GOOD])

    def test_noughts_ahead_seven_figures_and_signs(self):
        texts = []
        odd = ["00", "01", "000000", "0000000", "1000000", "9999999", "1234567", "+1", "-1", "-0", "+0", "1.0", "1e0", "0x1",
               "1_0", "x", "up", "None", "True", "\u0661", "\u00b2", "\u00bd", "", "1:", ":1", "1,", "10000000000000000000000000"]
        for text in self.GOOD:
            words = text.split(" ")
            for k, word in enumerate(words):
                if word.isdigit():
                    texts += [" ".join(words[:k] + [wrong] + words[k + 1:]) for wrong in odd]
        self.none_of_those(texts)

    def test_what_is_no_name(self):
        odd = ["Up", "UP", "uP", "abcdefghi", "a1", "1", "0", "u-p", "up:", "up,", "_", "up_", "\u00e9", "\u00df", "\u03b1", "", "-",
               "up\n", "up\t"]
        texts = [f"do 0 0 1 {name}" for name in odd] + [f"first 0 0 {name}" for name in odd]
        self.none_of_those(texts + [f"can {name}" for name in odd] + [f"can {name} 1" for name in odd])

    def test_six_figures_are_a_number(self):
        desk = Desk(THIRDS)
        desk.say("row 1 2 0")
        for text, error in (
            ("show 999999", NoMake), ("ask 0 0 999999", NoStretch), ("row 999999", NoValue), ("row 100000", NoValue),
            ("alike 999999 0", NoValue), ("can none 999999", NoValue), ("put 0 999999 0", NoStretch), ("put 0 0 999999", NoMake),
            ("do 0 0 1 abcdefgh", NoDeed), ("first 0 0 abcdefgh", NoSign), ("can abcdefgh", NoSign), ("can a", NoSign),
        ):
            self.refused(error, desk.say, text)

    def test_ahead_of_every_other_refusal(self):
        self.none_of_those([
            "row 9 x", "row x 9", "row 9 01", "row" + " 0" * 300 + " x", "row" + " 9" * 301 + " 1000000", "do 9 9 0 zzz 1",
            "do 9 9 0 Up", "do 9 9 00 zzz", "turn 9 9 0 0", "turn 9 01 0", "change 9 9 09", "change 9 9", "put 9 9 9 9",
            "put 9 9 x", "cut 9 9", "show 9 9", "show 09", "ask 9 9 0 up", "first 9 9 zzz zzz", "first 9 9 9",
            "depth 9 0", "can zzz 9 x", "can Zzz 9", "alike 9", "alike 9 9 9", "alike 9 x", "alike x 9",
        ])


class RefusalTest(DeskCase):
    def some_desk(self):
        """A desk with makes of 3, 0, 300, 150 and 151 values, and a plain one beside it."""
        algebra = sums(3, 3)[:4] + ([("up", [[0, 1, 2], [1, 2, 0], [2, 0, 1]]), ("wipe", [[0] * 3] * 3)],)
        algebra += ([("none", [0]), ("two", [2])],)
        desk, plain = Desk(THIRDS), PlainDesk(algebra)
        for many in (3, 0, 300, 150, 151):
            text = " ".join(["row"] + [str(k % 3) for k in range(many)])
            self.assertEqual(desk.say(text), plain.say(text))
        return desk, plain

    def each_refused(self, told):
        desk, plain = self.some_desk()
        for text, due in told:
            self.assertEqual(plain.due(text), due, text)
            self.refused(due[0], desk.say, text)
        self.stayed(desk, plain)
        self.assertEqual(desk.say("row"), "5")

    def test_one_alone(self):
        self.each_refused([
            ("do 5 0 0 up", [NoMake]), ("turn 5 0 0", [NoMake]), ("cut 9 0 0", [NoMake]), ("show 5", [NoMake]),
            ("show 300", [NoMake]), ("ask 5 0 0", [NoMake]), ("first 5 0 none", [NoMake]), ("depth 5", [NoMake]),
            ("put 5 0 0", [NoMake]), ("put 0 0 5", [NoMake]), ("put 5 0 5", [NoMake, NoMake]),
            ("do 0 0 4 up", [NoStretch]), ("do 0 2 1 up", [NoStretch]), ("do 0 4 4 up", [NoStretch]), ("do 1 0 1 up", [NoStretch]),
            ("turn 0 0 4", [NoStretch]), ("turn 0 3 2", [NoStretch]), ("change 0 3 0", [NoStretch]), ("change 1 0 0", [NoStretch]),
            ("put 0 4 1", [NoStretch]), ("put 1 1 0", [NoStretch]), ("cut 0 0 4", [NoStretch]), ("cut 0 1 0", [NoStretch]),
            ("ask 0 0 4", [NoStretch]), ("ask 0 1 0", [NoStretch]), ("ask 0 4 4", [NoStretch]), ("first 0 4 none", [NoStretch]),
            ("first 1 1 none", [NoStretch]), ("row 3", [NoValue]), ("row 0 1 2 3", [NoValue]), ("row 9 0", [NoValue]),
            ("change 0 0 3", [NoValue]), ("alike 3 0", [NoValue]), ("alike 0 3", [NoValue]), ("alike 3 3", [NoValue]),
            ("can none 3", [NoValue]), ("can none 0 1 2 9", [NoValue]), ("do 0 0 1 none", [NoDeed]), ("do 0 0 0 down", [NoDeed]),
            ("do 1 0 0 do", [NoDeed]), ("first 0 0 up", [NoSign]), ("first 0 3 one", [NoSign]), ("first 1 0 first", [NoSign]),
            ("can up", [NoSign]), ("can can 0", [NoSign]), ("row" + " 0" * 301, [TooGreat]), ("row" + " 2" * 2000, [TooGreat]),
            ("put 2 0 0", [TooGreat]), ("put 0 0 2", [TooGreat]), ("put 2 300 2", [TooGreat]), ("put 3 0 4", [TooGreat]),
            ("put 4 0 4", [TooGreat]), ("put 4 151 3", [TooGreat]),
        ])

    def test_two_and_more_that_are_due_together(self):
        self.each_refused([
            ("do 5 1 0 up", [NoMake, NoStretch]), ("do 5 0 0 down", [NoMake, NoDeed]), ("do 0 0 4 down", [NoStretch, NoDeed]),
            ("do 5 9 0 none", [NoMake, NoStretch, NoDeed]), ("turn 5 1 0", [NoMake, NoStretch]), ("turn 5 9 9", [NoMake, NoStretch]),
            ("change 5 9 0", [NoMake, NoStretch]), ("change 5 9 3", [NoMake, NoStretch, NoValue]),
            ("change 0 3 3", [NoStretch, NoValue]), ("change 1 0 9", [NoStretch, NoValue]), ("put 5 9 0", [NoMake, NoStretch]),
            ("put 0 4 5", [NoMake, NoStretch]), ("put 0 4 2", [NoStretch, TooGreat]), ("put 2 301 2", [NoStretch, TooGreat]),
            ("put 2 301 5", [NoMake, NoStretch]), ("put 5 1 5", [NoMake, NoMake, NoStretch]), ("cut 5 1 0", [NoMake, NoStretch]),
            ("ask 5 1 0", [NoMake, NoStretch]), ("ask 5 4 9", [NoMake, NoStretch]), ("first 5 9 none", [NoMake, NoStretch]),
            ("first 5 0 up", [NoMake, NoSign]), ("first 0 4 up", [NoStretch, NoSign]), ("first 5 9 up", [NoMake, NoStretch, NoSign]),
            ("row" + " 0" * 300 + " 3", [NoValue, TooGreat]), ("row 3" + " 0" * 400, [NoValue, TooGreat]),
            ("can up 3", [NoSign, NoValue]), ("can zzz 0 9", [NoSign, NoValue]), ("can row 9 9 9", [NoSign, NoValue]),
        ])

    def test_what_just_fits(self):
        desk, plain = self.some_desk()
        for text in ("put 3 0 3", "put 3 150 3", "put 2 300 1", "put 1 0 2", "do 0 3 3 up", "change 0 2 2", "first 0 3 none"):
            self.assertEqual(plain.due(text), [])
            self.assertEqual(desk.say(text), plain.say(text))
        self.stayed(desk, plain)

    def test_without_deeds_and_signs_each_name_is_refused(self):
        desk = Desk(show_algebra(single(2)))
        self.assertEqual(desk.say("row 0 0"), "0")
        for name in NAMES:
            self.refused(NoDeed, desk.say, f"do 0 0 0 {name}")
            self.refused(NoSign, desk.say, f"first 0 0 {name}")
            self.refused(NoSign, desk.say, f"can {name}")
        self.assertEqual(desk.say("alike 0 0"), "yes")

    def test_refused_ones_number_no_make(self):
        chance = random.Random(281)
        desk, plain = self.some_desk()
        for _ in range(300):
            text = drawn_text(chance, plain, 0.9)
            if plain.due(text):
                self.refused(plain.due(text)[0], desk.say, text)
        self.stayed(desk, plain)


class MadeTest(DeskCase):
    def test_of_each_algebra_that_is_let_by(self):
        for algebra in let_by():
            desk = Desk(show_algebra(algebra))
            row = [k % algebra[0] for k in range(5)]
            self.assertEqual(desk.say("row " + " ".join(map(str, row))), "0")
            self.assertEqual(desk.say("show 0"), " ".join(map(str, row)))

    def test_terms_in_the_text(self):
        desk = Desk("values 5 around 5\njoin add a b\nnothing 0\ndeed up add a times 2 c\nsign end 4")
        self.assertEqual([desk.say("row 1 1"), desk.say("do 0 0 2 up"), desk.say("ask 1 0 2")], ["0", "1", "1"])

    def test_no_text(self):
        lines = THIRDS.split("\n")
        told = [
            ("", 0), ("values 9 around 3", 0), (lines[0], 1), ("\n".join(lines[:2]), 2), (THIRDS + "\n", 7), ("\n" + THIRDS, 0),
            (THIRDS + "\nsign two 1", 7), (THIRDS + "\ndeed down a", 7), (THIRDS.replace("add a c", "add a b"), 3),
            (THIRDS.replace("join add", "join odd"), 1), (THIRDS.replace("nothing 0", "nothing 3"), 2), ("row 1", 0),
        ]
        for text, at in told:
            self.assertEqual(self.refused(NoText, Desk, text).at, at)

    def test_not_let_by(self):
        refused = 0
        for algebra in some_algebras(282, 200) + [chain(4, 2)]:
            fault = plain_fault(algebra)
            if fault is not None:
                self.assertEqual(self.refused(NotLetBy, Desk, show_algebra(algebra)).what, fault)
                refused += 1
        self.assertGreater(refused, 100)

    def test_no_text_goes_ahead(self):
        text = "values 3 around 1\njoin take a b\nnothing 0\nsign end 2"
        self.assertEqual(self.refused(NotLetBy, Desk, text).what, ("nothing", 1))
        self.assertEqual(self.refused(NoText, Desk, text + " 1").at, 3)


if __name__ == "__main__":
    unittest.main()
