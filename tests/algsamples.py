"""Algebras for the tests, and the points on them told once more in another way."""

import copy
import itertools
import random

LET_NAMES = "abcdefghijklmnopqrstuvwxyz"


def table(n, made):
    return [[made(a, b) for b in range(n)] for a in range(n)]


def rows(n, m, made):
    return [[made(a, c) for a in range(n)] for c in range(m)]


def sums(n, m=1):
    """Sums that go round; a deed that adds hangs on the count, so n must divide k * m."""
    deeds = [("double", rows(n, m, lambda a, c: 2 * a % n)), ("wipe", rows(n, m, lambda a, c: 0))]
    for k in range(1, n + 1):
        if k * m % n == 0:
            deeds.append(("up", rows(n, m, lambda a, c, k=k: (a + k * c) % n)))
            break
    return (n, m, table(n, lambda a, b: (a + b) % n), 0, deeds, [("none", [0]), ("odd", list(range(1, n, 2)))])


def greatest(n, m=1):
    deeds = [
        ("lower", rows(n, m, lambda a, c: max(a - 1, 0))), ("stay", rows(n, m, lambda a, c: a)),
        ("cut", rows(n, m, lambda a, c: min(a, n // 2))),
    ]
    return (n, m, table(n, max), 0, deeds, [("top", [n - 1]), ("never", [])])


def last(n, m=1):
    """0 is nothing, else the last one counts; a deed may set each other value to one."""
    deeds = [("set", rows(n, m, lambda a, c: 1 if a else 0)), ("turn", rows(n, m, lambda a, c: n - a if a else 0))]
    return (n, m, table(n, lambda a, b: b if b else a), 0, deeds, [("set", [1]), ("some", list(range(1, n)))])


def first(n, m=1):
    """The greatest number is nothing, else the first one counts."""
    end = n - 1
    deeds = [("set", rows(n, m, lambda a, c: 0 if a != end else end))]
    return (n, m, table(n, lambda a, b: a if a != end else b), end, deeds, [("all", list(range(n)))])


def maps(m=1):
    """The maps of two points: 0 stays, 1 to the first, 2 to the second, 3 exchanges; done one behind the other."""
    as_pairs = [(0, 1), (0, 0), (1, 1), (1, 0)]
    join = table(4, lambda a, b: as_pairs.index(tuple(as_pairs[b][x] for x in as_pairs[a])))
    deeds = [("swap", rows(4, m, lambda a, c: [0, 2, 1, 3][a]))]
    if m % 2 == 0:
        deeds.append(("rest", rows(4, m, lambda a, c: 3 if c % 2 else 0)))
    return (4, m, join, 0, deeds, [("ends", [1, 2]), ("swap", [3])])


def beside(one, other):
    """Two algebras beside one another: each value a pair, each deed one of either done at its place."""
    n, k, m = one[0] * other[0], other[0], one[1]
    assert m == other[1]
    join = table(n, lambda a, b: one[2][a // k][b // k] * k + other[2][a % k][b % k])
    deeds = [("l" + name, rows(n, m, lambda a, c, r=r: r[c][a // k] * k + a % k)) for name, r in one[4][:2]]
    deeds += [("r" + name, rows(n, m, lambda a, c, r=r: a // k * k + r[c][a % k])) for name, r in other[4][:2]]
    signs = [("l" + name, [a for a in range(n) if a // k in values]) for name, values in one[5]]
    signs += [("r" + name, [a for a in range(n) if a % k in values]) for name, values in other[5]]
    return (n, m, join, one[3] * k + other[3], deeds, signs)


def single(m=1):
    return (1, m, [[0]], 0, [], [])


def let_by():
    found = [single(1), single(6)]
    found += [sums(n, m) for n in range(1, 9) for m in (1, 2, 3, 6)]
    found += [greatest(n, m) for n in (1, 2, 3, 8) for m in (1, 4)]
    found += [last(n, m) for n in (2, 3, 8) for m in (1, 5)]
    found += [first(n, m) for n in (2, 4, 8) for m in (1, 2)]
    found += [maps(1), maps(2), maps(6)]
    found += [
        beside(sums(2, 2), greatest(3, 2)), beside(maps(4), sums(2, 4)), beside(last(2, 3), first(4, 3)),
        beside(greatest(2, 1), last(3, 1)), beside(sums(2, 1), beside(greatest(2), last(2))),
    ]
    # Six deeds and four signs are the most, also of what stands beside one another.
    return [algebra[:4] + (algebra[4][:6], algebra[5][:4]) for algebra in found]


def drawn(chance, most=8):
    """An algebra of any values at all, seldom one that is let by."""
    n, m = chance.randint(1, most), chance.randint(1, 6)
    value = lambda *told: chance.randrange(n)
    deeds = [(drawn_name(chance, k), rows(n, m, value)) for k in range(chance.randint(0, 6))]
    signs = [
        (drawn_name(chance, k), sorted(chance.sample(range(n), chance.randint(0, n))))
        for k in range(chance.randint(0, 4))
    ]
    return (n, m, table(n, value), value(), deeds, signs)


def drawn_name(chance, k):
    return LET_NAMES[k] + "".join(chance.choice(LET_NAMES) for _ in range(chance.randint(0, 7)))


def bent(chance, algebra):
    """The algebra with one or two of its values changed, so that it's mostly let by no more."""
    n, m, join, nothing, deeds, signs = copy.deepcopy(algebra)
    for _ in range(chance.randint(1, 2)):
        tables = [join] + [told for _, told in deeds] * 3
        chosen = chance.choice(tables)
        chosen[chance.randrange(len(chosen))][chance.randrange(n)] = chance.randrange(n)
    if chance.random() < 0.1:
        nothing = chance.randrange(n)
    return (n, m, join, nothing, deeds, signs)


def some_algebras(seed, many, most=8):
    chance = random.Random(seed)
    known = let_by()
    found = []
    for _ in range(many):
        found.append(drawn(chance, most) if chance.random() < 0.3 else bent(chance, chance.choice(known)))
    return found


def all_faults(algebra):
    """Point 10 once more: every fault there is, in no order that is promised, each with the number of its sort."""
    n, m, join, nothing, deeds, _ = algebra
    found = []
    for a, b, c in itertools.product(reversed(range(n)), repeat=3):
        if join[join[a][b]][c] != join[a][join[b][c]]:
            found.append((1, ("parting", a, b, c)))
    for a in reversed(range(n)):
        if (join[nothing][a], join[a][nothing]) != (a, a):
            found.append((0, ("nothing", a)))
    for k, (name, told) in enumerate(deeds):
        spots = list(itertools.product(range(n), range(m)))
        for (a, i), (b, j) in itertools.product(reversed(spots), repeat=2):
            together = told[i + j if i + j < m else i + j - m][join[a][b]]
            if together != join[told[i][a]][told[j][b]]:
                found.append((3 + 2 * k, ("doing", name, a, i, b, j)))
        if told[0][nothing] != nothing:
            found.append((2 + 2 * k, ("empty", name)))
    return found


def plain_fault(algebra):
    found = all_faults(algebra)
    return min(found)[1] if found else None


def lists_of(thing):
    """Every list within the thing, itself among them."""
    found = [thing] if isinstance(thing, list) else []
    if isinstance(thing, (list, tuple)):
        for part in thing:
            found += lists_of(part)
    return found


def spoil_lists(thing):
    """Changes every list within the thing, the inner ones too."""
    for told in lists_of(thing):
        for k in range(len(told)):
            if isinstance(told[k], int):
                told[k] = 97
    for told in lists_of(thing):
        told.append("spoiled")
        told.reverse()
