"""Terms and words for the tests, made the same way each time."""

import random

PAIRS = ["add", "take", "times", "most", "least"]
ALL = ["a", "b", "c"]
ZERO = ("number", 0)


def leaning(deep, side):
    """A term in which one number stands within `deep` others."""
    term = ZERO
    for step in range(deep):
        word = PAIRS[step % len(PAIRS)]
        term = (word, term, ZERO) if side == "left" else (word, ZERO, term)
    return term


def wide(pairs):
    """A term of 2 * pairs + 1 terms, as flat as can be."""
    level = [("name", "a")] * (pairs + 1)
    while len(level) > 1:
        level = [("add", level[0], level[1])] + level[2:]
        level = level[1:] + level[:1]
    return level[0]


def grown(chance, deep, names):
    kind = chance.randrange(9) if deep > 0 else chance.randrange(2)
    if kind == 0:
        return ("number", chance.choice([0, 1, 2, 9, 10, 10 ** 59, 10 ** 60 - 1, chance.randrange(1000)]))
    if kind == 1:
        return ("name", chance.choice(names))
    if kind == 2:
        return ("same",) + tuple(grown(chance, deep - 1, names) for _ in range(4))
    return (chance.choice(PAIRS),) + tuple(grown(chance, deep - 1, names) for _ in range(2))


def some_terms(seed, many, deep=4, names=ALL, most=40):
    chance = random.Random(seed)
    found = []
    while len(found) < many:
        term = grown(chance, deep, names)
        if size(term) <= most:
            found.append(term)
    return found


def parts(term):
    return [part for part in term[1:] if isinstance(part, tuple)]


def size(term):
    return 1 + sum(size(part) for part in parts(term))


def depth(term):
    return 1 + max(depth(part) for part in parts(term)) if parts(term) else 0


def shaken(chance, thing, names):
    """The thing with one change somewhere within it."""
    if isinstance(thing, tuple) and chance.random() < 0.75 and thing:
        place = chance.randrange(len(thing))
        return thing[:place] + (shaken(chance, thing[place], names),) + thing[place + 1:]
    odd = [
        True, False, None, -1, 10 ** 60, 1.0, "", "a", "d", "add", "same", "number", "name", b"a", [], (), {},
        {"a"}, object(), ["number", 1], ("number", 1), ("number",), ("name", "a", "b"), ("name", ["a"]),
        ([], ZERO, ZERO), ({}, 1), (None, 1), ("add", ZERO), ("same", ZERO, ZERO), ("neither", ZERO, ZERO),
    ]
    if isinstance(thing, tuple):
        odd = odd + [list(thing), thing + (ZERO,), thing[:-1], ("add", thing, thing)]
    return chance.choice(odd + [("name", letter) for letter in names])


class Unasked:
    """A thing that can be neither compared nor looked up nor counted."""

    def __eq__(self, other):
        raise RuntimeError("compared")

    def __hash__(self):
        raise RuntimeError("looked up")

    def __len__(self):
        raise RuntimeError("counted")

    def __lt__(self, other):
        raise RuntimeError("compared")

    __le__ = __gt__ = __ge__ = __lt__


def nested(deep):
    as_list, as_tuple, as_dict = [], (), {}
    for _ in range(deep):
        as_list, as_tuple, as_dict = [as_list], (as_tuple,), {"a": as_dict}
    return [as_list, as_tuple, as_dict]


ODD = [
    None, True, False, -1, 0, 1, 2, 5, 6, 7, 8, 9, -(10 ** 60), 10 ** 60, 10 ** 3000, 1.0, float("nan"), 1j, "", "0", "1",
    "a", "up", "abcdefgh", "abcdefghi", "Up", "u p", "up\n", "a1", "_", "\u00e9", "\u00df", "\u03b1", b"a", (), [], {},
    set(), frozenset([1]), {0: 0}, range(2), [0], [0, 1], [1, 0], [0, 0], [[0]], (0,), (0, 1), ((0,),), ("a", []), ["a", []],
    ("a",), ("a", [], []), ("a", [0]), ("a", [[0]]), ([], "a"), object(), int, len, Unasked(), ["a"] * 2000, [[]] * 1000,
    (0,) * 2000, [0] * 2000, "a" * 2000,
] + nested(59)
