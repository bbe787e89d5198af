"""Algebras: what one is, tables by terms, whether one is let by, and what lists of values come to."""

from stretchdeeds.errors import NotLetBy
from stretchdeeds.terms import is_whole, worth

MOST_VALUES = 8
MOST_AROUND = 6
MOST_DEEDS = 6
MOST_SIGNS = 4
MOST_LETTERS = 8
SMALL_LETTERS = "abcdefghijklmnopqrstuvwxyz"


def is_name(thing):
    if not isinstance(thing, str) or len(thing) < 1 or len(thing) > MOST_LETTERS:
        return False
    return all([letter in SMALL_LETTERS for letter in thing])


def is_within(thing, least, most):
    return is_whole(thing) and least <= thing <= most


def is_row(thing, n):
    return isinstance(thing, list) and all([is_within(value, 0, n - 1) for value in thing])


def is_table(thing, many, n):
    if not isinstance(thing, list) or len(thing) != many:
        return False
    return all([is_row(row, n) and len(row) == n for row in thing])


def is_rising(row):
    return all([row[k] < row[k + 1] for k in range(len(row) - 1)])


def is_named(thing):
    return isinstance(thing, tuple) and len(thing) == 2 and is_name(thing[0])


def all_named(thing, most):
    if not isinstance(thing, list) or len(thing) > most or not all([is_named(part) for part in thing]):
        return False
    return len(set([part[0] for part in thing])) == len(thing)


def is_algebra(thing):
    # Each check lets the next one be asked without an error, so their order stands.
    if not isinstance(thing, tuple) or len(thing) != 6:
        return False
    n = thing[0]
    m = thing[1]
    if not is_within(n, 1, MOST_VALUES) or not is_within(m, 1, MOST_AROUND):
        return False
    if not is_table(thing[2], n, n) or not is_within(thing[3], 0, n - 1):
        return False
    if not all_named(thing[4], MOST_DEEDS) or not all_named(thing[5], MOST_SIGNS):
        return False
    if not all([is_table(deed[1], m, n) for deed in thing[4]]):
        return False
    return all([is_row(sign[1], n) and is_rising(sign[1]) for sign in thing[5]])


def join_by(n, term):
    return [[worth(term, n, {"a": a, "b": b}) for b in range(n)] for a in range(n)]


def rows_by(n, m, term):
    return [[worth(term, n, {"a": a, "c": c}) for a in range(n)] for c in range(m)]


def nothing_fails(algebra):
    join = algebra[2]
    nothing = algebra[3]
    for a in range(algebra[0]):
        if join[nothing][a] != a or join[a][nothing] != a:
            return ("nothing", a)
    return None


def parting_fails(algebra):
    n = algebra[0]
    join = algebra[2]
    for a in range(n):
        for b in range(n):
            for c in range(n):
                if join[join[a][b]][c] != join[a][join[b][c]]:
                    return ("parting", a, b, c)
    return None


def doing_fails(algebra, name, rows):
    n = algebra[0]
    m = algebra[1]
    join = algebra[2]
    for a in range(n):
        for i in range(m):
            for b in range(n):
                for j in range(m):
                    if rows[(i + j) % m][join[a][b]] != join[rows[i][a]][rows[j][b]]:
                        return ("doing", name, a, i, b, j)
    return None


def deeds_fail(algebra):
    nothing = algebra[3]
    for name, rows in algebra[4]:
        if rows[0][nothing] != nothing:
            return ("empty", name)
        fault = doing_fails(algebra, name, rows)
        if fault is not None:
            return fault
    return None


def what_fails(algebra):
    fault = nothing_fails(algebra)
    if fault is None:
        fault = parting_fails(algebra)
    if fault is None:
        fault = deeds_fail(algebra)
    return fault


def check_let_by(algebra):
    fault = what_fails(algebra)
    if fault is not None:
        raise NotLetBy(fault)


def joined(algebra, row):
    # Nothing is joined for no values alone: of an algebra that isn't let by it could change what others come to.
    if len(row) == 0:
        return algebra[3]
    whole = row[0]
    for value in row[1:]:
        whole = algebra[2][whole][value]
    return whole


def done_to(algebra, name, row):
    rows = dict(algebra[4])[name]
    made = rows[1 % algebra[1]]
    return [made[value] for value in row]
