import copy
import random
import re
import unittest

from stretchdeeds.algebras import is_algebra, join_by, rows_by
from stretchdeeds.algtexts import read_algebra, show_algebra
from stretchdeeds.errors import NoText, StretchError
from stretchdeeds.termtexts import read_term, show_term
from tests.algsamples import let_by, lists_of, maps, single, some_algebras, spoil_lists, sums
from tests.samples import leaning, some_terms, wide

HEAD = "values 2 around 3\njoin rows 0 1, 1 0\nnothing 0"
UP = "deed up rows 0 1, 1 0, 0 1"
ODD = "sign odd 1"
FULL = HEAD + "\n" + UP + "\n" + ODD
KEYWORDS = ["rows", "join", "deed", "sign", "nothing", "values", "around"]


def is_term_text(text, names):
    try:
        read_term(text, names)
    except NoText:
        return False
    return True


def table_pattern(many, n):
    row = " ".join(["[0-" + str(n - 1) + "]"] * n)
    return "rows " + ", ".join([row] * many)


def plain_line(line, at, sizes, told):
    """Whether a line is as told there, point 12 once more: by a pattern, or a term at the end of one."""
    if at == 0:
        return re.fullmatch("values [1-8] around [1-6]", line) is not None
    n, m = sizes
    if at == 1:
        if re.fullmatch("join " + table_pattern(n, n), line):
            return True
        return line[:5] == "join " and is_term_text(line[5:], ["a", "b"])
    if at == 2:
        return re.fullmatch("nothing [0-" + str(n - 1) + "]", line) is not None
    found = re.fullmatch("(deed|sign) ([a-z]{1,8})((?: .*)?)", line)
    if found is None:
        return False
    sort, name, behind = found.groups()
    if (sort, name) in told or [kind for kind, _ in told].count(sort) == {"deed": 6, "sign": 4}[sort]:
        return False
    if sort == "sign":
        pattern = "".join("( " + str(value) + ")?" for value in range(n))
        return re.fullmatch(pattern, behind) is not None
    if "sign" in [kind for kind, _ in told] or behind[:1] != " ":
        return False
    return re.fullmatch(table_pattern(m, n), behind[1:]) is not None or is_term_text(behind[1:], ["a", "c"])


def plain_at(text):
    """The `at` of point 12 line by line; None where the text is one of an algebra."""
    lines = text.split("\n")
    told = []
    sizes = None
    for at, line in enumerate(lines):
        if not plain_line(line, at, sizes, told):
            return at
        if at == 0:
            sizes = (int(line.split(" ")[1]), int(line.split(" ")[3]))
        if at > 2:
            told.append(tuple(line.split(" ")[:2]))
    return None if len(lines) > 2 else len(lines)


class ShowTest(unittest.TestCase):
    def test_without_deeds_and_signs(self):
        self.assertEqual(show_algebra(single(1)), "values 1 around 1\njoin rows 0\nnothing 0")
        self.assertEqual(show_algebra((2, 6, [[0, 1], [1, 0]], 1, [], [])), "values 2 around 6\njoin rows 0 1, 1 0\nnothing 1")

    def test_with_deeds_and_signs(self):
        algebra = (
            3, 2, [[0, 1, 2], [1, 2, 0], [2, 0, 1]], 0, [("up", [[0, 1, 2], [2, 1, 0]]), ("rows", [[0, 0, 0], [1, 1, 1]])],
            [("up", []), ("odd", [1]), ("all", [0, 1, 2])],
        )
        self.assertEqual(show_algebra(algebra), "\n".join([
            "values 3 around 2", "join rows 0 1 2, 1 2 0, 2 0 1", "nothing 0", "deed up rows 0 1 2, 2 1 0",
            "deed rows rows 0 0 0, 1 1 1", "sign up", "sign odd 1", "sign all 0 1 2",
        ]))

    def test_what_is_shown_stays(self):
        for algebra in (maps(2), sums(6, 3)):
            kept = copy.deepcopy(algebra)
            show_algebra(algebra)
            self.assertEqual(algebra, kept)

    def test_somewhat_beyond_the_bounds(self):
        text = show_algebra((11, 7, [[10] * 11] * 11, 10, [("abcdefghi", [[10] * 11] * 7)], [("odd", [9, 10])]))
        lines = text.split("\n")
        self.assertEqual(lines[0], "values 11 around 7")
        self.assertEqual(lines[2], "nothing 10")
        self.assertEqual(lines[3], "deed abcdefghi rows " + ", ".join([" ".join(["10"] * 11)] * 7))
        self.assertEqual(lines[4], "sign odd 9 10")


class ReadTest(unittest.TestCase):
    def read(self, text):
        algebra = read_algebra(text)
        self.assertIs(is_algebra(algebra), True)
        self.assertIsNone(plain_at(text))
        return algebra

    def refused(self, text, at):
        self.assertEqual(plain_at(text), at, text)
        with self.assertRaises(NoText, msg=repr(text)) as caught:
            read_algebra(text)
        self.assertEqual(caught.exception.at, at, repr(text))
        self.assertIs(type(caught.exception.at), int)
        self.assertIsInstance(caught.exception, StretchError)

    def line_refused(self, at, line):
        """The line in the stead of that of FULL, with the others behind it and without them."""
        lines = FULL.split("\n")
        self.refused("\n".join(lines[:at] + [line] + lines[at + 1:]), at)
        self.refused("\n".join(lines[:at] + [line]), at)
        self.refused("\n".join(lines[:at] + [line, "", "neither"]), at)

    def test_written_and_read_again(self):
        for algebra in let_by() + some_algebras(41, 300):
            text = show_algebra(algebra)
            self.assertEqual(self.read(text), algebra)
            self.assertEqual(show_algebra(read_algebra(text)), text)

    def test_with_and_without_deeds_and_signs(self):
        ahead = (2, 3, [[0, 1], [1, 0]], 0)
        deed, sign = ("up", [[0, 1], [1, 0], [0, 1]]), ("odd", [1])
        self.assertEqual(self.read(HEAD), ahead + ([], []))
        self.assertEqual(self.read(HEAD + "\n" + UP), ahead + ([deed], []))
        self.assertEqual(self.read(HEAD + "\n" + ODD), ahead + ([], [sign]))
        self.assertEqual(self.read(FULL), ahead + ([deed], [sign]))

    def test_signs_without_values(self):
        self.assertEqual(self.read(HEAD + "\nsign odd\nsign no\nsign all 0 1")[5], [("odd", []), ("no", []), ("all", [0, 1])])
        self.line_refused(4, "sign odd ")
        self.line_refused(4, "sign ")
        self.line_refused(4, "sign")

    def test_called_by_the_words_of_the_text(self):
        for name in KEYWORDS + ["add", "a", "c", "same"]:
            algebra = self.read(HEAD + "\ndeed " + name + " rows 0 1, 1 0, 0 1\nsign " + name + " 1")
            self.assertEqual((algebra[4][0][0], algebra[5][0][0]), (name, name))
            algebra = self.read(HEAD + "\ndeed " + name + " add a c\nsign " + name)
            self.assertEqual(algebra[4:], ([(name, [[0, 1], [1, 0], [0, 1]])], [(name, [])]))
            self.line_refused(3, "deed " + name)
            self.line_refused(3, "deed " + name + " ")
            self.line_refused(3, "deed " + name + " rows")
            self.line_refused(3, "deed " + name + " rows ")
        self.line_refused(3, "deed rows 0 1, 1 0, 0 1")
        self.line_refused(3, "deed rows 0 1")
        self.assertEqual(self.read(HEAD + "\ndeed rows 1")[4], [("rows", [[1, 1]] * 3)])

    def test_six_deeds_and_four_signs(self):
        names = ["a", "b", "c", "d", "e", "f", "g"]
        deeds = ["deed " + name + " a" for name in names]
        signs = ["sign " + name + " 0" for name in names]
        algebra = self.read("\n".join([HEAD] + deeds[:6] + signs[:4]))
        self.assertEqual([name for name, _ in algebra[4]], names[:6])
        self.assertEqual([name for name, _ in algebra[5]], names[:4])
        self.refused("\n".join([HEAD] + deeds[:7] + signs[:4]), 9)
        self.refused("\n".join([HEAD] + deeds[:7]), 9)
        self.refused("\n".join([HEAD] + deeds[:6] + signs[:5]), 13)
        self.refused("\n".join([HEAD] + signs[:5]), 7)
        self.refused("\n".join([HEAD] + signs[:7]), 7)

    def test_names_told_again(self):
        self.refused("\n".join([HEAD, UP, UP]), 4)
        self.refused("\n".join([HEAD, UP, "deed down a", "deed up a", "sign odd"]), 5)
        self.refused("\n".join([HEAD, ODD, ODD]), 4)
        self.refused("\n".join([HEAD, UP, ODD, "sign up", "sign odd"]), 6)
        self.read("\n".join([HEAD, UP, "sign up"]))

    def test_names(self):
        for name in ("a", "z", "abcdefgh"):
            self.read(HEAD + "\ndeed " + name + " a\nsign " + name)
        for name in ("", "abcdefghi", "Up", "UP", "u1", "1", "u-p", "u_p", "up,", "~", "`", "{"):
            self.line_refused(3, "deed " + name + " a")
            self.line_refused(3, "deed " + name + " rows 0 1, 1 0, 0 1")
            self.line_refused(4, "sign " + name)
            self.line_refused(4, "sign " + name + " 0 1")

    def test_by_terms(self):
        text = "values 3 around 2\njoin most a b\nnothing 0\ndeed up least add a c 2\ndeed set same a 0 0 1"
        algebra = self.read(text)
        self.assertEqual(algebra[2], [[0, 1, 2], [1, 1, 2], [2, 2, 2]])
        self.assertEqual(algebra[4], [("up", [[0, 1, 2], [1, 2, 0]]), ("set", [[0, 1, 1], [0, 1, 1]])])
        self.assertEqual(self.read("values 3 around 2\njoin 4\nnothing 2")[2], [[1] * 3] * 3)
        self.assertEqual(self.read("values 3 around 2\njoin a\nnothing 2")[2], [[0] * 3, [1] * 3, [2] * 3])
        self.assertEqual(self.read("values 2 around 3\njoin b\nnothing 1\ndeed c c")[4], [("c", [[0, 0], [1, 1], [0, 0]])])

    def test_by_drawn_terms(self):
        terms = zip(some_terms(42, 60, names=["a", "b"]), some_terms(43, 60, names=["a", "c"]))
        for k, (join, deed) in enumerate(terms):
            n, m = k % 8 + 1, k % 6 + 1
            lines = ["values " + str(n) + " around " + str(m), "join " + show_term(join), "nothing 0"]
            algebra = self.read("\n".join(lines + ["deed up " + show_term(deed), "deed down a"]))
            self.assertEqual(algebra[2], join_by(n, join))
            self.assertEqual(algebra[4][0], ("up", rows_by(n, m, deed)))

    def test_terms_at_their_bounds(self):
        for term in (wide(19), leaning(12, "left"), leaning(12, "right"), ("number", 10 ** 60 - 1)):
            self.read(HEAD.replace("rows 0 1, 1 0", show_term(term)) + "\ndeed up " + show_term(term))
        for term in (wide(20), leaning(13, "left"), leaning(13, "right"), ("number", 10 ** 60)):
            self.line_refused(1, "join " + show_term(term))
            self.line_refused(3, "deed up " + show_term(term))

    def test_terms_that_are_none(self):
        wrong = (
            "", " ", "add", "add a", "add a a a", "a a", "A", "ab", "number 1", "name a", "00", "01", "-1", "1.0", "add  a a",
            "add a a ", " a", "a ", "a, a", "0, 0", "neither", "(a)", "Rows 0 1, 1 0", "row 0 1, 1 0", "x",
        )
        for text in wrong:
            self.line_refused(1, "join " + text)
            self.line_refused(3, "deed up " + text)

    def test_terms_of_other_names(self):
        for text in ("c", "add a c", "same a a a c", "d"):
            self.line_refused(1, "join " + text)
        for text in ("b", "add a b", "same a a a b", "d"):
            self.line_refused(3, "deed up " + text)
        self.read(HEAD.replace("rows 0 1, 1 0", "add b a"))
        self.read(HEAD + "\ndeed up add c a")

    def test_first_line(self):
        for line in ("values 1 around 1", "values 8 around 6"):
            self.read(line + "\njoin 0\nnothing 0\ndeed up a")
        wrong = (
            "values 0 around 1", "values 9 around 1", "values 1 around 0", "values 1 around 7", "values 02 around 3",
            "values 2 around 03", "values 00 around 3", "values 10 around 3", "values -1 around 3", "values +2 around 3",
            "values a around 3", "values 2 around b", "values 2.0 around 3", "values  2 around 3", "values 2  around 3",
            "values 2 around  3", " values 2 around 3", "values 2 around 3 ", "values 2 around", "values 2 around ",
            "values 2", "values", "around 3", "2 3", "values 2 around 3 3", "values 2 around 3 a", "Values 2 around 3",
            "value 2 around 3", "values 2 Around 3", "values 2 by 3", "values 2, around 3", "values two around three",
            "values " + "1" * 61 + " around 3", "values 2 around " + "1" * 5000, "values 2 around 3,", "around 3 values 2", "",
        )
        for line in wrong:
            self.line_refused(0, line)

    def test_rows_of_the_join(self):
        wrong = (
            "join", "join ", "join rows", "join rows ", "joinrows 0 1, 1 0", "Join rows 0 1, 1 0", "rows 0 1, 1 0",
            "join rows 0 1,1 0", "join rows 0 1 1 0", "join rows 0 1 , 1 0", "join rows 0 1,  1 0", "join rows  0 1, 1 0",
            "join  rows 0 1, 1 0", " join rows 0 1, 1 0", "join rows 0 1, 1 0 ", "join rows 0 1, 1 0,", "join rows 0 1, 1 0, ",
            "join rows , 0 1, 1 0", "join rows 0  1, 1 0", "join rows 0 1", "join rows 0 1, 1 0, 0 1", "join rows 0 1, 1",
            "join rows 0, 1 0", "join rows 0 1, 1 0 0", "join rows 0 1 0, 1 0", "join rows 0, 1", "join rows 0 1, 1 2",
            "join rows 2 1, 1 0", "join rows 0 1, 1 -1", "join rows 0 1, 1 00", "join rows 00 1, 1 0", "join rows 0 01, 1 0",
            "join rows 0 1, 1 a", "join rows 0 1, 1 0.0", "join rows 0 1; 1 0", "join rows 0,1, 1 0", "join rows rows 0 1, 1 0",
            "join row 0 1, 1 0", "join 0 1, 1 0", "join rows 0 1, 1 0 a", "join rows 0 1, 1 " + "1" * 5000, "join rows , ",
            "nothing 0", "",
        )
        for line in wrong:
            self.line_refused(1, line)

    def test_nothing(self):
        self.assertEqual(self.read(HEAD[:-1] + "1")[3], 1)
        wrong = (
            "nothing", "nothing ", "nothing 2", "nothing 00", "nothing 01", "nothing -1", "nothing 10", "nothing a", "nothing  0",
            " nothing 0", "nothing 0 ", "nothing 0 1", "nothing 0,", "Nothing 0", "none 0", "nothing0", "0", "nothing None",
            "nothing " + "1" * 5000, "",
        )
        for line in wrong:
            self.line_refused(2, line)

    def test_rows_of_deeds(self):
        wrong = (
            "deed", "deed ", "deed up", "Deed up a", "deeds up a", "deed  up a", " deed up a", "deed up  a", "deed up a ",
            "deedup a", "up rows 0 1, 1 0, 0 1", "deed up rows 0 1, 1 0", "deed up rows 0 1, 1 0, 0 1, 1 0",
            "deed up rows 0 1, 1 0, 0", "deed up rows 0 1, 1 0, 0 1 1", "deed up rows 0 1, 1 0, 0 2", "deed up rows 0 1,1 0,0 1",
            "deed up rows 0 1, 1 0, 0 01", "deed up rows 0 1, 1 0,  0 1", "deed up rows 0 1, 1 0, 0 1 ", "deed up rows  0 1, 1 0, 0 1",
            "deed up rows 0 1, 1 0, 0 1,", "deed up  rows 0 1, 1 0, 0 1", "deed up rows 0 1, 1 0 , 0 1", "deed up up rows 0 1, 1 0, 0 1",
            "deed up rows 0 1, 1 0, 0 -1", "deed up rows 0 1, 1 0, a c", "deed up rows a", "deed up 0 1, 1 0, 0 1", "",
        )
        for line in wrong:
            self.line_refused(3, line)

    def test_values_of_signs(self):
        wrong = (
            "sign odd 2", "sign odd 1 0", "sign odd 0 0", "sign odd 1 1", "sign odd 0 1 1", "sign odd  1", "sign  odd 1",
            " sign odd 1", "sign odd 1 ", "sign odd 0, 1", "sign odd 0,1", "sign odd 01", "sign odd 00", "sign odd -1", "sign odd a",
            "Sign odd 1", "signs odd 1", "signodd 1", "odd 1", "sign odd rows 1", "sign odd 0 2", "sign odd odd", "sign odd 10", "",
        )
        for line in wrong:
            self.line_refused(4, line)

    def test_lines_left_out_told_again_and_exchanged(self):
        lines = FULL.split("\n")
        for at in range(3):
            self.refused("\n".join(lines[:at] + lines[at + 1:]), at)
        for at in range(5):
            self.refused("\n".join(lines[:at + 1] + lines[at:]), at + 1)
        for at in range(4):
            changed = list(lines)
            changed[at], changed[at + 1] = lines[at + 1], lines[at]
            # A sign is as told behind nothing's line, and a deed behind it isn't.
            self.refused("\n".join(changed), at if at < 3 else 4)
        self.refused("\n".join(lines + ["deed down a"]), 5)
        self.refused("\n".join(lines + ["nothing 0"]), 5)
        self.refused("\n".join(lines + ["sign no", "deed down a", "sign neither"]), 6)
        self.refused("\n".join(lines[:3] + ["neither"] + lines[3:]), 3)

    def test_line_ends(self):
        self.refused(FULL + "\n", 5)
        self.refused(HEAD + "\n", 3)
        self.refused(HEAD + "\n" + UP + "\n", 4)
        self.refused(FULL + "\n\n", 5)
        self.refused("\n" + FULL, 0)
        self.refused("\n", 0)
        self.refused("values 2 around 3\n", 1)
        self.refused("values 2 around 3\njoin a\n", 2)
        self.refused("values 2 around 3\n\njoin a\nnothing 0", 1)
        self.refused(HEAD + "\n\n" + ODD, 3)
        self.refused(FULL.replace("\n", " "), 0)
        self.refused(FULL.replace("\n", "\n "), 1)
        self.refused(FULL.replace("\n", " \n"), 0)

    def test_a_text_that_ends_too_early(self):
        self.refused("", 0)
        self.refused("values 2 around 3", 1)
        self.refused("values 2 around 3\njoin a", 2)
        self.refused("values 2 around 3\njoin rows 0 1, 1 0", 2)
        # Where a line is not as told, this goes first.
        self.refused("values 2 around 9", 0)
        self.refused("values 2 around 3\njoin c", 1)

    def test_the_first_line_of_many(self):
        self.refused("values 2 around 3\njoin c\nnothing 9\nneither", 1)
        self.refused("values 2 around 3\njoin a\nnothing 9\nneither", 2)
        self.refused("values 3 around 3\n" + FULL.split("\n", 1)[1], 1)
        self.refused("values 2 around 2\n" + FULL.split("\n", 1)[1], 3)
        self.refused("values 1 around 3\njoin 0\nnothing 1\ndeed up a", 2)
        self.refused("values 1 around 3\njoin 0\nnothing 0\n" + UP, 3)
        self.refused("values 1 around 3\njoin 0\nnothing 0\n" + ODD, 3)

    def test_one_that_is_not_let_by_is_read(self):
        text = "values 3 around 1\njoin rows 1 1 1, 1 1 0, 0 0 0\nnothing 2\ndeed up rows 1 0 1"
        self.assertEqual(show_algebra(self.read(text)), text)

    def test_what_was_read_is_the_askers_own(self):
        for text in (FULL, HEAD + "\ndeed up 0\ndeed down 0\nsign odd", "values 3 around 6\njoin 0\nnothing 0\ndeed up a\ndeed b a"):
            algebra = read_algebra(text)
            kept = copy.deepcopy(algebra)
            lists = lists_of(algebra)
            self.assertEqual(len({id(told) for told in lists}), len(lists))
            spoil_lists(algebra)
            self.assertNotEqual(algebra, kept)
            self.assertEqual(read_algebra(text), kept)

    def test_against_the_point_told_another_way(self):
        chance = random.Random(44)
        algebras = let_by() + some_algebras(45, 100, most=4)
        ended = {"read": 0, "within": 0, "short": 0}
        for _ in range(5000):
            lines = show_algebra(chance.choice(algebras)).split("\n")
            for _ in range(chance.randint(0, 2)):
                lines = changed_lines(chance, lines)
            text = "\n".join(lines)
            if chance.random() < 0.4:
                text = changed_signs(chance, text)
            at = plain_at(text)
            if at is None:
                self.read(text)
            else:
                self.refused(text, at)
            ended["read" if at is None else "short" if at == len(text.split("\n")) else "within"] += 1
        self.assertGreater(min(ended.values()), 100, ended)


def changed_lines(chance, lines):
    """Lines left out, told again, exchanged, ended early, told by terms, or others in between."""
    at, other = chance.randrange(len(lines)), chance.randrange(len(lines))
    sort = chance.randrange(7)
    if sort == 0 and len(lines) > 1:
        return lines[:at] + lines[at + 1:]
    if sort == 1:
        return lines[:at] + [lines[other]] + lines[at:]
    if sort == 2:
        exchanged = list(lines)
        exchanged[at], exchanged[other] = lines[other], lines[at]
        return exchanged
    if sort == 3:
        return lines[:at + 1]
    if sort == 4:
        term = chance.choice(["a", "b", "c", "0", "add a b", "add a c", "add a", "01", "same a 0 c 1", "most a 1", "rows 0"])
        return [re.sub(r"\brows [0-7].*", term, line) if k in (at, other) else line for k, line in enumerate(lines)]
    line = chance.choice(["", "deed new a", "deed rows c", "sign new", "sign rows 0", "sign new 0 1", "nothing 0", "join a"])
    return lines + [line] if sort == 5 else lines[:at] + [line] + lines[at:]


def changed_signs(chance, text):
    """One sign left out, told again, or another one in its stead."""
    if text == "":
        return text
    at = chance.randrange(len(text))
    sign = chance.choice("01279 ,\nabz~A-" + text[at] + text[at])
    return text[:at] + chance.choice(["", sign, text[at] + sign]) + text[at + 1:]


if __name__ == "__main__":
    unittest.main()
