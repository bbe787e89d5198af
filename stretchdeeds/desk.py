"""The desk: makes of an algebra's way, changed and asked by texts."""

from stretchdeeds.algebras import is_name
from stretchdeeds.algtexts import read_algebra, show_row
from stretchdeeds.alikes import told_apart
from stretchdeeds.coming import comes
from stretchdeeds.errors import NoRow, NoSign
from stretchdeeds.makes import Makes
from stretchdeeds.termtexts import is_figures
from stretchdeeds.ways import Ways

MOST_SAID_FIGURES = 6
# What stands behind the first word: NAME is a name, each other one a number.
WORDS_BEHIND = {
    "row": (), "do": ("M", "I", "J", "NAME"), "turn": ("M", "I", "J"), "change": ("M", "I", "V"),
    "put": ("M", "I", "M"), "cut": ("M", "I", "J"), "show": ("M",), "ask": ("M", "I", "J"),
    "first": ("M", "I", "NAME"), "depth": ("M",), "can": ("NAME",), "alike": ("V", "V"),
}
WITH_VALUES = ("row", "can")


def words_wanted(words):
    if words[0] not in WORDS_BEHIND:
        raise NoRow("no text begins with this word")
    wanted = WORDS_BEHIND[words[0]]
    more = len(words) - 1 - len(wanted)
    if more < 0 or (more > 0 and words[0] not in WITH_VALUES):
        raise NoRow("there are too few words, or too many")
    return wanted + ("V",) * more


def read_word(word, wanted):
    if wanted == "NAME":
        if not is_name(word):
            raise NoRow("this word is no name")
        return word
    if not is_figures(word, MOST_SAID_FIGURES):
        raise NoRow("this word is no number")
    return int(word)


def read_words(words):
    return [read_word(word, wanted) for word, wanted in zip(words[1:], words_wanted(words))]


def depth_of(walk):
    return 0 if len(walk) < 3 else 1 + max(depth_of(walk[1]), depth_of(walk[2]))


def show_step(step):
    if step[0] == "deed":
        return step[1] + ":" + str(step[2])
    return step[0] + ":" + str(step[1])


# Each of the following answers a text of one kind: said is what its words tell behind the first one.


def say_row(desk, said):
    return str(desk.makes.made(said))


def say_do(desk, said):
    return str(desk.makes.done(said[0], said[1], said[2], said[3]))


def say_turn(desk, said):
    return str(desk.makes.turned(said[0], said[1], said[2]))


def say_change(desk, said):
    return str(desk.makes.changed(said[0], said[1], said[2]))


def say_put(desk, said):
    return str(desk.makes.put_in(said[0], said[1], said[2]))


def say_cut(desk, said):
    return show_row(desk.makes.cut(said[0], said[1], said[2]))


def say_show(desk, said):
    row = desk.makes.listed(said[0])
    return "-" if len(row) == 0 else show_row(row)


def say_ask(desk, said):
    return str(desk.makes.asked(said[0], said[1], said[2]))


def say_first(desk, said):
    place = desk.makes.first(said[0], said[1], said[2])
    return "none" if place is None else str(place)


def say_depth(desk, said):
    return str(depth_of(desk.makes.walk(said[0])))


def say_can(desk, said):
    if not desk.makes.way.is_sign(said[0]):
        raise NoSign("this is no sign")
    for value in said[1:]:
        desk.makes.check_value(value)
    return comes(desk.algebra, said[1:], said[0])[0]


def say_alike(desk, said):
    for value in said:
        desk.makes.check_value(value)
    told = told_apart(desk.algebra, said[0], said[1])
    if told[0] == "alike":
        return "yes"
    return " ".join(["no", told[2]] + [show_step(step) for step in told[1]])


ANSWERS = {
    "row": say_row, "do": say_do, "turn": say_turn, "change": say_change, "put": say_put, "cut": say_cut,
    "show": say_show, "ask": say_ask, "first": say_first, "depth": say_depth, "can": say_can, "alike": say_alike,
}


class Desk:
    def __init__(self, text):
        self.algebra = read_algebra(text)
        self.makes = Makes(Ways(self.algebra))

    def say(self, text):
        words = text.split(" ")
        said = read_words(words)
        return ANSWERS[words[0]](self, said)
