"""Trees: rows of values kept by a way, put together and parted in few steps, with deeds and turns put off."""


class Knot:
    # A tree of one value or more; that of none is None. A knot is never changed, as many trees may share it.
    # `whole` is what its values come to, `back` what they come to in the contrary order. For both, `wait` (None where
    # there is none) and `turn` are done already; its two parts are still to be given them.

    def __init__(self, whole, back, wait, turn, one, other):
        self.whole = whole
        self.back = back
        self.wait = wait
        self.turn = turn
        self.one = one
        self.other = other
        self.deep = 0 if one is None else 1 + max(one.deep, other.deep)
        self.size = 1 if one is None else one.size + other.size


def leaf_of(value):
    return Knot(value, value, None, False, None, None)


def knot_of(way, one, other):
    return Knot(way.join(one.whole, other.whole), way.join(other.back, one.back), None, False, one, other)


def tree_of(way, row):
    if len(row) == 0:
        return None
    if len(row) == 1:
        return leaf_of(row[0])
    half = len(row) // 2
    return knot_of(way, tree_of(way, row[:half]), tree_of(way, row[half:]))


def size_of(tree):
    return 0 if tree is None else tree.size


def whole_of(way, tree):
    return way.nothing() if tree is None else tree.whole


def both_waits(way, one, other):
    if one is None:
        return other
    if other is None:
        return one
    return way.behind(one, other)


def done_all(way, tree, wait):
    if tree is None:
        return None
    whole = way.made(wait, tree.whole, tree.size)
    if tree.deep == 0:
        return leaf_of(whole)
    back = way.made(wait, tree.back, tree.size)
    return Knot(whole, back, both_waits(way, tree.wait, wait), tree.turn, tree.one, tree.other)


def turned_all(way, tree):
    if tree is None:
        return None
    return Knot(tree.back, tree.whole, tree.wait, not tree.turn, tree.one, tree.other)


def parts_of(way, knot):
    one = knot.one
    other = knot.other
    if knot.wait is not None:
        one = done_all(way, one, knot.wait)
        other = done_all(way, other, knot.wait)
    if knot.turn:
        return (turned_all(way, other), turned_all(way, one))
    return (one, other)


def gather(way, tree, wait, turn, row):
    # Waits are carried down to the values: to give them to each part would join for knots that nobody keeps.
    if tree.deep == 0:
        row.append(tree.whole if wait is None else way.made(wait, tree.whole, 1))
        return
    owed = both_waits(way, tree.wait, wait)
    contrary = tree.turn != turn
    parts = (tree.other, tree.one) if contrary else (tree.one, tree.other)
    for part in parts:
        gather(way, part, owed, contrary, row)


def row_of(way, tree):
    row = []
    if tree is not None:
        gather(way, tree, None, False, row)
    return row


def walk_of(way, tree):
    if tree is None:
        return ()
    if tree.deep == 0:
        return (tree.whole,)
    parts = parts_of(way, tree)
    return (tree.whole, walk_of(way, parts[0]), walk_of(way, parts[1]))


def leaned_left(way, one, other):
    # For one two deeper than other: parts of one go over to other's side, so that the depths differ by one at most.
    parts = parts_of(way, one)
    if parts[0].deep >= parts[1].deep:
        return knot_of(way, parts[0], knot_of(way, parts[1], other))
    inner = parts_of(way, parts[1])
    return knot_of(way, knot_of(way, parts[0], inner[0]), knot_of(way, inner[1], other))


def leaned_right(way, one, other):
    parts = parts_of(way, other)
    if parts[1].deep >= parts[0].deep:
        return knot_of(way, knot_of(way, one, parts[0]), parts[1])
    inner = parts_of(way, parts[0])
    return knot_of(way, knot_of(way, one, inner[0]), knot_of(way, inner[1], parts[1]))


def evened(way, one, other):
    if one.deep > other.deep + 1:
        return leaned_left(way, one, other)
    if other.deep > one.deep + 1:
        return leaned_right(way, one, other)
    return knot_of(way, one, other)


def put_together(way, one, other):
    # The shallow tree goes down the deep one's side to where the depths fit; each step up again is off by two at most.
    if one is None:
        return other
    if other is None:
        return one
    if one.deep > other.deep + 1:
        parts = parts_of(way, one)
        return evened(way, parts[0], put_together(way, parts[1], other))
    if other.deep > one.deep + 1:
        parts = parts_of(way, other)
        return evened(way, put_together(way, one, parts[0]), parts[1])
    return knot_of(way, one, other)


def parted_at(way, tree, place):
    if place == 0:
        return (None, tree)
    if place == tree.size:
        return (tree, None)
    parts = parts_of(way, tree)
    ahead = parts[0].size
    if place < ahead:
        pair = parted_at(way, parts[0], place)
        return (pair[0], put_together(way, pair[1], parts[1]))
    pair = parted_at(way, parts[1], place - ahead)
    return (put_together(way, parts[0], pair[0]), pair[1])
