"""Points 31 and 32 told once more: a desk upon plain lists, and texts that are told to it."""

import re

from stretchdeeds.errors import NoDeed, NoMake, NoRow, NoSign, NoStretch, NoValue, TooGreat
from tests.plainclasses import NAMES, fewest_steps, plain_done, plain_frame, plain_whole, signs_of

NUMBER = "(0|[1-9][0-9]{0,5})"
NAME = "([a-z]{1,8})"
MORE = "((?: (?:0|[1-9][0-9]{0,5}))*)"
FORMS = {
    "row": "row" + MORE,
    "do": f"do {NUMBER} {NUMBER} {NUMBER} {NAME}",
    "turn": f"turn {NUMBER} {NUMBER} {NUMBER}",
    "change": f"change {NUMBER} {NUMBER} {NUMBER}",
    "put": f"put {NUMBER} {NUMBER} {NUMBER}",
    "cut": f"cut {NUMBER} {NUMBER} {NUMBER}",
    "show": f"show {NUMBER}",
    "ask": f"ask {NUMBER} {NUMBER} {NUMBER}",
    "first": f"first {NUMBER} {NUMBER} {NAME}",
    "depth": f"depth {NUMBER}",
    "can": f"can {NAME}{MORE}",
    "alike": f"alike {NUMBER} {NUMBER}",
}


def as_number(word):
    return int(word) if word.isdigit() else word


def parsed(text):
    """The kind of a text and what it tells, or None for what is no text of a desk."""
    for kind, form in FORMS.items():
        found = re.fullmatch(form, text)
        if found and kind in ("row", "can"):
            return kind, [[int(word) for word in part.split()] if " " in part or not part else part for part in found.groups()]
        if found:
            return kind, [as_number(word) for word in found.groups()]
    return None


def plain_comes(algebra, name, row):
    """Whether a value with the sign comes, of any number of values."""
    n, m, join, nothing, deeds, signs = algebra
    found, grown = set(), {(nothing, 0)} | {(value, 1 % m) for value in row}
    while not grown <= found:
        found |= grown
        grown = {(rows[c][a], c) for _, rows in deeds for a, c in found}
        grown |= {(join[a][b], (c + d) % m) for a, c in found for b, d in found}
    return any(a in dict(signs)[name] for a, _ in found)


class PlainDesk:
    """Keeps each make as a plain list; answers a text, or tells what it is refused with."""

    def __init__(self, algebra):
        self.algebra = algebra
        self.rows = []

    def due(self, text):
        """All refusals that are due, in the told order."""
        told = parsed(text)
        if told is None:
            return [NoRow]
        kind, said = told
        if kind in ("row", "can", "alike"):
            return self.due_of_values(kind, said)
        makes = [said[0]] + ([said[2]] if kind == "put" else [])
        found = [NoMake for make in makes if make >= len(self.rows)]
        many = len(self.rows[said[0]]) if said[0] < len(self.rows) else 0
        if kind in ("do", "turn", "cut", "ask") and not said[1] <= said[2] <= many:
            found.append(NoStretch)
        if kind in ("put", "first") and said[1] > many or kind == "change" and said[1] >= many:
            found.append(NoStretch)
        if kind == "change" and said[2] >= self.algebra[0]:
            found.append(NoValue)
        if kind == "do" and said[3] not in dict(self.algebra[4]):
            found.append(NoDeed)
        if kind == "first" and said[2] not in dict(self.algebra[5]):
            found.append(NoSign)
        if kind == "put" and NoMake not in found and many + len(self.rows[said[2]]) > 300:
            found.append(TooGreat)
        return found

    def due_of_values(self, kind, said):
        values = said if kind == "alike" else said[-1]
        found = [NoSign] if kind == "can" and said[0] not in dict(self.algebra[5]) else []
        found += [NoValue] if any(value >= self.algebra[0] for value in values) else []
        return found + ([TooGreat] if kind == "row" and len(values) > 300 else [])

    def keep(self, row):
        self.rows.append(row)
        return str(len(self.rows) - 1)

    def say(self, text):
        """What is answered to a good text; None where that isn't promised to the letter."""
        kind, said = parsed(text)
        return getattr(self, "say_" + kind)(*said)

    def say_row(self, values):
        return self.keep(values)

    def say_do(self, make, i, j, name):
        return self.keep(plain_done(self.algebra, name, self.rows[make], i, j))

    def say_turn(self, make, i, j):
        row = self.rows[make]
        return self.keep(row[:i] + row[i:j][::-1] + row[j:])

    def say_change(self, make, i, value):
        row = self.rows[make]
        return self.keep(row[:i] + [value] + row[i + 1:])

    def say_put(self, make, i, other):
        row = self.rows[make]
        return self.keep(row[:i] + self.rows[other] + row[i:])

    def say_cut(self, make, i, j):
        row = self.rows[make]
        return self.keep(row[i:j]) + " " + self.keep(row[:i] + row[j:])

    def say_show(self, make):
        return " ".join(map(str, self.rows[make])) or "-"

    def say_ask(self, make, i, j):
        return str(plain_whole(self.algebra, self.rows[make][i:j]))

    def say_first(self, make, i, name):
        row = self.rows[make]
        for k in range(i, len(row)):
            if name in signs_of(self.algebra, plain_whole(self.algebra, row[i:k + 1])):
                return str(k)
        return "none"

    def say_depth(self, make):
        return None

    def say_can(self, name, values):
        return "comes" if plain_comes(self.algebra, name, values) else "never"

    def say_alike(self, one, other):
        return None


def check_depth(test, answer, many):
    """A depth that a walk of so many values may have."""
    test.assertRegex(answer, r"\A(0|[1-9][0-9]*)\Z")
    depth = int(answer)
    fewest, more = 1, 2
    for _ in range(depth):
        fewest, more = more, fewest + more
    test.assertLessEqual(fewest, max(many, 1))
    test.assertLessEqual(many, 2 ** depth)


def steps_told(algebra, words):
    """All frames that these words may tell: a deed that is called left or right is written like a side."""
    frames = [[]]
    for word in words:
        name, number = re.fullmatch("([a-z]+):(0|[1-9][0-9]*)", word).groups()
        found = [("deed", name, int(number))] if name in dict(algebra[4]) and int(number) < algebra[1] else []
        found += [(name, int(number))] if name in ("left", "right") and int(number) < algebra[0] else []
        frames = [frame + [step] for frame in frames for step in found]
    return frames


def check_alike(test, algebra, answer, one, other):
    needed = fewest_steps(algebra)
    if (one, other) not in needed:
        test.assertEqual(answer, "yes")
        return
    words = answer.split(" ")
    test.assertEqual((words[0], len(words) - 2), ("no", needed[one, other]))
    telling = []
    for steps in steps_told(algebra, words[2:]):
        came = [words[1] in signs_of(algebra, plain_frame(algebra, steps, value)) for value in (one, other)]
        telling.append(came[0] != came[1])
    test.assertIn(True, telling, (algebra, answer))


def drawn_number(chance, most, wrong):
    if chance.random() < wrong:
        return chance.choice([most + 1, most + 2, 9, 99, 999999])
    return chance.randint(0, max(most, 0))


def drawn_text(chance, desk, wrong=0.06):
    """A text of the desk, now and then one that is refused."""
    kind = chance.choice(list(FORMS) + ["row", "do", "do", "turn", "put", "cut", "ask", "first"])
    n, _, _, _, deeds, signs = desk.algebra
    values = [drawn_number(chance, n - 1, wrong / 3) for _ in range(chance.choice([0, 1, 2, 3, 8, 30]))]
    make = drawn_number(chance, len(desk.rows) - 1, wrong)
    many = len(desk.rows[make]) if make < len(desk.rows) else 3
    i, j = sorted(drawn_number(chance, many, wrong) for _ in range(2))
    if chance.random() < wrong:
        i, j = j, i
    known = [name for name, _ in (deeds if kind == "do" else signs)]
    name = chance.choice(known) if known and chance.random() > wrong else chance.choice(NAMES)
    told = {
        "row": values, "do": [make, i, j, name], "turn": [make, i, j], "change": [make, i, drawn_number(chance, n - 1, wrong)],
        "put": [make, i, drawn_number(chance, len(desk.rows) - 1, wrong)], "cut": [make, i, j], "show": [make],
        "ask": [make, i, j], "first": [make, i, name], "depth": [make], "can": [name] + values[:5],
        "alike": [drawn_number(chance, n - 1, wrong) for _ in range(2)],
    }
    return " ".join([kind] + [str(word) for word in told[kind]])


def spoiled(chance, text):
    """The text with a change somewhere; mostly one that is no text of the desk any more."""
    place = chance.randrange(len(text) + 1)
    sign = chance.choice(list(" 0179abz-+:,._A~\n") + ["\t", "\u0663", "\u00b2", "\u00e9", "  "])
    cut = chance.choice([text[place:], text[place + 1:]])
    return text[:place] + chance.choice([sign, "", " 0", "000"]) + cut
