"""Drawn algebras that are let by, and points 24 to 27 told once more in another way."""

import functools
import itertools
import random

from tests.algsamples import beside, first, greatest, last, let_by, maps, plain_fault, single, sums

# Names that the desk, the texts of algebras or the frames have for words of their own are names like any other.
NAMES = """left right deed row rows do turn change put cut show ask first depth can alike comes never yes no none sign
    values around join nothing a b c zzzzzzzz up down""".split()


def chain(n, m, count=0, name="on", signs=None):
    """Joined, all values come to 0; one deed leads, at one count, each value to the next one, up to the last."""
    on = [min(a + 1, n - 1) for a in range(n)]
    rows = [on if c == count else [0] * n for c in range(m)]
    return (n, m, [[0] * n for _ in range(n)], 0, [(name, rows)], signs or [("end", [n - 1])])


def all_steps(algebra):
    """Each step there is, as a frame's step."""
    n, m, _, _, deeds, _ = algebra
    found = [("deed", name, c) for name, _ in deeds for c in range(m)]
    return found + [(side, x) for x in range(n) for side in ("right", "left")]


def plain_step(algebra, step, value):
    _, _, join, _, deeds, _ = algebra
    kind, told = step[:2]
    if kind == "deed":
        (rows,) = [rows for name, rows in deeds if name == told]
        return rows[step[2]][value]
    return join[told][value] if kind == "left" else join[value][told]


def plain_frame(algebra, steps, value):
    return functools.reduce(lambda came, step: plain_step(algebra, step, came), steps, value)


def signs_of(algebra, value):
    return [name for name, values in algebra[5] if value in values]


def fewest_steps(algebra):
    """For each two values that aren't alike how many steps they need: from those that signs tell apart backwards."""
    n = algebra[0]
    rows = [[plain_step(algebra, step, a) for a in range(n)] for step in all_steps(algebra)]
    pairs = list(itertools.product(range(n), repeat=2))
    found = {(a, b): 0 for a, b in pairs if signs_of(algebra, a) != signs_of(algebra, b)}
    grown = dict(found)
    while grown:
        grown = {
            (a, b): max(found.values()) + 1 for a, b in pairs
            if (a, b) not in found and any((row[a], row[b]) in found for row in rows)
        }
        found.update(grown)
    return found


def plain_numbers(algebra):
    """For each value the number of its class, classes numbered by their least values."""
    apart = fewest_steps(algebra)
    leasts = [min(b for b in range(algebra[0]) if (a, b) not in apart) for a in range(algebra[0])]
    return [sorted(set(leasts)).index(least) for least in leasts]


def is_plain_picture(one, other, numbers):
    """Point 27, for any list of whole numbers."""
    if len(numbers) != one[0] or not set(numbers) <= set(range(other[0])) or one[1] != other[1]:
        return False
    for k in (4, 5):
        if [part[0] for part in one[k]] != [part[0] for part in other[k]]:
            return False
    told = []
    for a, b in itertools.product(range(one[0]), repeat=2):
        told.append((numbers[one[2][a][b]], other[2][numbers[a]][numbers[b]]))
    for (_, rows), (_, others) in zip(one[4], other[4]):
        for c, a in itertools.product(range(one[1]), range(one[0])):
            told.append((numbers[rows[c][a]], others[c][numbers[a]]))
    told += [(signs_of(one, a), signs_of(other, numbers[a])) for a in range(one[0])]
    return numbers[one[3]] == other[3] and all(here == there for here, there in told)


@functools.lru_cache(maxsize=None)
def small_joins(n):
    """All tables of so many values that are let by with 0 for nothing."""
    found = []
    free = list(itertools.product(range(1, n), repeat=2))
    for told in itertools.product(range(n), repeat=len(free)):
        made = dict(zip(free, told))
        join = [[made.get((a, b), a + b) for b in range(n)] for a in range(n)]
        if plain_fault((n, 1, join, 0, [], [])) is None:
            found.append(join)
    return found


@functools.lru_cache(maxsize=None)
def small_deeds(n, m, at):
    """All rows that a deed may have by the table of this number."""
    join = small_joins(n)[at]
    found = []
    for told in itertools.product(range(n), repeat=n * m):
        rows = [list(told[c * n:c * n + n]) for c in range(m)]
        if rows[0][0] == 0 and plain_fault((n, m, join, 0, [("up", rows)], [])) is None:
            found.append(rows)
    return found


def drawn_small(chance):
    n, m = chance.choice([(1, 1), (1, 6), (2, 1), (2, 2), (2, 3), (3, 1), (3, 2)])
    at = chance.randrange(len(small_joins(n)))
    deeds = [("x", chance.choice(small_deeds(n, m, at))) for _ in range(chance.randint(0, 6))]
    return (n, m, small_joins(n)[at], 0, deeds, [])


def drawn_signs(chance, n):
    many = chance.choice([0, 1, 1, 1, 2, 3, 4])
    return [(name, sorted(chance.sample(range(n), chance.randint(0, n)))) for name in chance.sample(NAMES, many)]


def relabelled(chance, algebra):
    """The same algebra with its values told by other numbers."""
    n, m, join, nothing, deeds, signs = algebra
    new = chance.sample(range(n), n)
    old = [new.index(a) for a in range(n)]
    join = [[new[join[old[a]][old[b]]] for b in range(n)] for a in range(n)]
    deeds = [(name, [[new[row[old[a]]] for a in range(n)] for row in rows]) for name, rows in deeds]
    return (n, m, join, new[nothing], deeds, [(name, sorted(new[a] for a in values)) for name, values in signs])


def drawn_let_by(seed, many):
    """Algebras that are let by, many of them with alike values; with names, deeds and signs as they are drawn."""
    chance = random.Random(seed)
    known = let_by() + [
        beside(greatest(2, 2), maps(2)), beside(last(3, 1), greatest(2, 1)), beside(sums(4, 4), sums(2, 4)),
        beside(first(3, 2), greatest(2, 2)), single(4),
    ]
    found = []
    for _ in range(many):
        n, m, join, nothing, deeds, signs = drawn_small(chance) if chance.random() < 0.4 else chance.choice(known)
        chosen = chance.sample(deeds, chance.randint(0, min(len(deeds), 6)))
        deeds = [(name, rows) for name, (_, rows) in zip(chance.sample(NAMES, len(chosen)), chosen)]
        if chance.random() < 0.5 or not signs:
            signs = drawn_signs(chance, n)
        else:
            signs = chance.sample(signs, chance.randint(1, min(len(signs), 4)))
        found.append(relabelled(chance, (n, m, join, nothing, deeds, signs)))
    return found


def drawn_row(chance, algebra, most=12):
    return [chance.randrange(algebra[0]) for _ in range(chance.randint(0, most))]


def plain_whole(algebra, row):
    """What a list of values comes to, told as in point 11."""
    return functools.reduce(lambda a, b: algebra[2][a][b], row) if row else algebra[3]


def plain_done(algebra, name, row, i, j):
    """The row with the deed done to the values from i to j."""
    m = algebra[1]
    (rows,) = [rows for told, rows in algebra[4] if told == name]
    return row[:i] + [rows[1 if m > 1 else 0][value] for value in row[i:j]] + row[j:]
