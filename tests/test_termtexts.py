import random
import unittest

from stretchdeeds.errors import NoText, StretchError
from stretchdeeds.terms import is_term
from stretchdeeds.termtexts import read_term, show_term
from tests.samples import ALL, PAIRS, ZERO, leaning, size, some_terms, wide

A = ("name", "a")
C = ("name", "c")
TWO = ("number", 2)


def filled(words, names):
    """The term that the words begin, with 0 for each term that is still wanted; None where they begin none."""
    left = list(words)

    def one():
        if not left:
            return ZERO
        word = left.pop(0)
        if word in PAIRS or word == "same":
            return (word,) + tuple(one() for _ in range(4 if word == "same" else 2))
        figures = word.isascii() and word.isdigit() and len(word) < 100 and str(int(word)) == word
        return ("number", int(word)) if figures else ("name", word)

    term = one()
    return term if not left and is_term(term, names) else None


def plain_at(text, names):
    """The `at` of point 7 by trying each beginning; None where the text is one of a term."""
    words = text.split(" ")
    for at in range(len(words)):
        if filled(words[:at + 1], names) is None:
            return at
    return None if size(filled(words, names)) == len(words) else len(words)


class ShowTest(unittest.TestCase):
    def test_each_sort(self):
        self.assertEqual(show_term(("number", 0)), "0")
        self.assertEqual(show_term(("number", 120)), "120")
        self.assertEqual(show_term(("number", 10 ** 60 - 1)), "9" * 60)
        for letter in ALL:
            self.assertEqual(show_term(("name", letter)), letter)
        for word in PAIRS:
            self.assertEqual(show_term((word, A, TWO)), word + " a 2")
        self.assertEqual(show_term(("same", A, TWO, C, ZERO)), "same a 2 c 0")

    def test_within_one_another(self):
        self.assertEqual(show_term(("add", A, ("times", TWO, C))), "add a times 2 c")
        self.assertEqual(show_term(("add", ("times", TWO, C), A)), "add times 2 c a")
        term = ("same", ("take", A, TWO), ("most", A, C), ("same", A, A, C, C), ("least", ZERO, A))
        self.assertEqual(show_term(term), "same take a 2 most a c same a a c c least 0 a")

    def test_somewhat_beyond_the_bounds(self):
        self.assertEqual(show_term(("number", 10 ** 60)), "1" + "0" * 60)
        self.assertEqual(len(show_term(wide(30)).split(" ")), 61)
        self.assertEqual(len(show_term(leaning(20, "left")).split(" ")), 41)


class ReadTest(unittest.TestCase):
    def refused(self, text, at, names=ALL):
        with self.assertRaises(NoText, msg=repr(text)) as caught:
            read_term(text, list(names))
        self.assertEqual(caught.exception.at, at, repr(text))
        self.assertIsInstance(caught.exception, StretchError)
        self.assertEqual(plain_at(text, names), at, repr(text))

    def test_each_sort(self):
        self.assertEqual(read_term("0", []), ZERO)
        self.assertEqual(read_term("120", ["a"]), ("number", 120))
        for letter in ALL:
            self.assertEqual(read_term(letter, [letter]), ("name", letter))
        for word in PAIRS:
            self.assertEqual(read_term(word + " a 2", ALL), (word, A, TWO))
        self.assertEqual(read_term("same a 2 c 0", ALL), ("same", A, TWO, C, ZERO))
        self.assertEqual(read_term("add a times 2 c", ["c", "a"]), ("add", A, ("times", TWO, C)))
        self.assertEqual(read_term("add times 2 c a", ALL), ("add", ("times", TWO, C), A))

    def test_shown_and_read_again(self):
        for term in some_terms(2, 400) + [wide(19), leaning(12, "left"), leaning(12, "right")]:
            text = show_term(term)
            self.assertEqual(read_term(text, ALL), term)
            self.assertEqual(show_term(read_term(text, ALL)), text)

    def test_numbers(self):
        self.assertEqual(read_term("9" * 60, []), ("number", 10 ** 60 - 1))
        self.assertEqual(read_term("1" + "0" * 59, []), ("number", 10 ** 59))
        self.assertEqual(read_term("add 0 " + "7" * 60, []), ("add", ZERO, ("number", int("7" * 60))))
        wrong = (
            "00", "01", "007", "0" + "1" * 59, "1" * 61, "1" + "0" * 60, "0" * 61, "5" * 5000, "-1", "-0", "+1", "1_0",
            "1.0", "1a", "a1", "0x1", "1,", "0a",
        )
        for word in wrong:
            self.refused(word, 0)
            self.refused("add " + word + " 1", 1)
            self.refused("add 1 " + word, 2)
            self.refused("add add 1 2 " + word, 4)

    def test_figures_of_other_scripts(self):
        # Beyond the signs of a text, but a number must not come of them unseen.
        for word in ("\u0663", "\u00b2", "1\u0663"):
            with self.assertRaises(NoText):
                read_term(word, ALL)

    def test_names_that_are_not_let(self):
        self.refused("a", 0, [])
        self.refused("c", 0, ["a", "b"])
        self.refused("add a c", 2, ["a", "b"])
        self.refused("add b c", 1, ["a", "c"])
        self.refused("same a a b c", 3, ["a", "c"])
        self.refused("d", 0, ["a", "d"])
        self.refused("add d a", 1, ["a", "d"])

    def test_no_words_and_blanks(self):
        self.refused("", 0)
        self.refused(" ", 0)
        self.refused("  ", 0)
        self.refused(" a", 0)
        self.refused("a ", 1)
        self.refused("a  ", 1)
        self.refused(" add a b", 0)
        self.refused("add a b ", 3)
        self.refused("add  a b", 1)
        self.refused("add a  b", 2)
        self.refused("add ", 1)
        self.refused("add a ", 2)

    def test_line_ends(self):
        self.refused("\n", 0)
        self.refused("a\n", 0)
        self.refused("\na", 0)
        self.refused("1\n", 0)
        self.refused("add a b\n", 2)
        self.refused("add a\nb", 1)
        self.refused("add\na b", 0)
        self.refused("add a b \n", 3)

    def test_a_word_too_many(self):
        self.refused("a b", 1)
        self.refused("0 0", 1)
        self.refused("add a b c", 3)
        self.refused("add a b add", 3)
        self.refused("add a b c neither", 3)
        self.refused("same 1 2 3 4 5", 5)
        self.refused("a add", 1)

    def test_words_too_few(self):
        for word in PAIRS:
            self.refused(word, 1)
            self.refused(word + " a", 2)
            self.refused("add a " + word + " b", 4)
        self.refused("same", 1)
        self.refused("same a b c", 4)
        self.refused("same add a b", 4)

    def test_unknown_words(self):
        for word in ("number", "name", "Add", "ADD", "A", "ab", "plus", "(", "~", "adda", "rows", "None"):
            self.refused(word, 0)
            self.refused(word + " a b", 0)
            self.refused("add " + word + " a", 1)
            self.refused("add a " + word, 2)
            self.refused("same a add 1 2 " + word + " b", 5)
        self.refused("number 1", 0)
        self.refused("name a", 0)

    def test_the_first_fault_is_told(self):
        self.refused("add x y", 1)
        self.refused("add 01  z", 1)
        self.refused("a neither", 1)

    def test_within_too_many(self):
        for word in PAIRS:
            ahead = word + " "
            self.assertEqual(show_term(read_term(ahead * 12 + "a" + " 0" * 12, ALL)), ahead * 12 + "a" + " 0" * 12)
            self.refused(ahead * 13 + "a" + " 0" * 13, 12)
            self.refused(ahead * 13 + "a", 12)
            self.refused((ahead * 13).strip(), 12)
            self.refused((ahead * 12).strip(), 12)
            self.refused(ahead * 12 + "same", 12)
            self.refused(ahead * 12 + "neither", 12)
            self.refused(ahead + "0 " + ahead * 12 + "a" + " 0" * 12, 13)
            right = (ahead + "0 ") * 12
            self.assertEqual(show_term(read_term(right + "b", ALL)), right + "b")
            self.refused(right + ahead + "0 b", 24)
            self.refused((right + ahead).strip(), 24)

    def test_more_than_forty(self):
        # No term has just forty terms; so the word by which there would be forty-one is the first one too many.
        text = show_term(wide(19))
        self.assertEqual(len(text.split(" ")), 39)
        self.assertEqual(read_term(text, ALL), wide(19))
        words = show_term(wide(20)).split(" ")
        last_pair = max(at for at, word in enumerate(words) if word == "add")
        self.refused(" ".join(words), last_pair)
        self.refused(" ".join(words[:last_pair + 1]), last_pair)
        self.refused(" ".join(words[:last_pair]), last_pair)
        self.refused(text + " a", 39)

    def test_more_than_forty_by_fours(self):
        # Each same brings four: nine of them make 37 terms, a tenth one 41.
        nine = "same " * 9
        whole = nine + "a" + " b" * 27
        self.assertEqual(size(read_term(whole, ALL)), 37)
        self.refused("same " * 10 + "a" + " b" * 30, 9)
        self.refused(("same " * 10).strip(), 9)
        self.refused(nine + "add add", 10)
        self.refused(nine + "add", 10)
        self.refused(nine + "a " * 26 + "add b add b c", 37)
        self.refused(nine + "a " * 26 + "add b add", 37)
        self.refused(nine + "a " * 27 + "same b b b c", 36)
        self.refused(nine + "a " * 27 + "same", 36)
        self.assertEqual(size(read_term(nine + "a " * 27 + "add b c", ALL)), 39)

    def test_against_the_point_told_another_way(self):
        chance = random.Random(3)
        vocabulary = PAIRS + ["same"] + ALL + ["0", "7", "12", "9" * 60]
        faults = ["", "00", "x", "a\n", "1" * 61, "number", "Same"]
        ended = {"read": 0, "within": 0, "short": 0}
        for _ in range(6000):
            opening = chance.choice([0, 0, 5, 9, 12])
            words = [chance.choice(PAIRS + ["same"][:opening == 9]) for _ in range(opening)]
            weights = chance.choice([[1] * 13, [1] * 6 + [3] * 7, [3] * 6 + [1] * 7])
            words = words + chance.choices(vocabulary, weights, k=chance.randrange(1, 45))
            if chance.random() < 0.3:
                words[chance.randrange(len(words))] = chance.choice(faults)
            if chance.random() < 0.5:
                words = words[:plain_at(" ".join(words), ALL)]
            if not words:
                continue
            ended[self.one_case(" ".join(words), chance.choice([ALL, ["a", "b"], ["c", "a"]]))] += 1
        self.assertGreater(min(ended.values()), 200, ended)

    def one_case(self, text, names):
        at = plain_at(text, names)
        if at is None:
            term = read_term(text, list(names))
            self.assertIs(is_term(term, names), True)
            self.assertEqual(show_term(term), text)
            return "read"
        self.refused(text, at, names)
        return "short" if at == len(text.split(" ")) else "within"

    def test_nothing_handed_in_is_changed(self):
        names = ["b", "a"]
        read_term("add a b", names)
        with self.assertRaises(NoText):
            read_term("add a c", names)
        self.assertEqual(names, ["b", "a"])
        term = ("add", A, ("times", TWO, C))
        show_term(term)
        self.assertEqual(term, ("add", ("name", "a"), ("times", ("number", 2), ("name", "c"))))


if __name__ == "__main__":
    unittest.main()
