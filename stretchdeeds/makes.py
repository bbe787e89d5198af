"""Sets of makes: rows of values, each made new or of elder ones, which all stay and can be asked."""

from stretchdeeds.algebras import is_within
from stretchdeeds.errors import NoDeed, NoMake, NoSign, NoStretch, NoValue, TooGreat
from stretchdeeds.trees import done_all, parted_at, put_together, row_of, size_of
from stretchdeeds.trees import tree_of, turned_all, walk_of, whole_of

MOST_IN_ROW = 300


def check_place(place, least, most):
    if not is_within(place, least, most):
        raise NoStretch("there is no such place or stretch")


def check_size(size):
    if size > MOST_IN_ROW:
        raise TooGreat("there would be too many values")


class Makes:
    # In each method what may be refused is asked in the order of the refusals, and a make is kept behind all of it.

    def __init__(self, way):
        self.way = way
        self.trees = []

    def keep(self, tree):
        self.trees.append(tree)
        return len(self.trees) - 1

    def tree_at(self, make):
        if not is_within(make, 0, len(self.trees) - 1):
            raise NoMake("there is no such make")
        return self.trees[make]

    def check_value(self, thing):
        if not self.way.is_value(thing):
            raise NoValue("this is no value")

    def three_parts(self, make, i, j):
        tree = self.tree_at(make)
        check_place(i, 0, size_of(tree))
        check_place(j, i, size_of(tree))
        pair = parted_at(self.way, tree, j)
        ahead = parted_at(self.way, pair[0], i)
        return (ahead[0], ahead[1], pair[1])

    def three_together(self, ahead, stretch, rest):
        return put_together(self.way, put_together(self.way, ahead, stretch), rest)

    def made(self, row):
        if not isinstance(row, list):
            raise NoValue("this is no list of values")
        for value in row:
            self.check_value(value)
        check_size(len(row))
        return self.keep(tree_of(self.way, row))

    def done(self, make, i, j, deed):
        parts = self.three_parts(make, i, j)
        if not self.way.is_deed(deed):
            raise NoDeed("this is no deed")
        stretch = done_all(self.way, parts[1], self.way.wait_of(deed))
        return self.keep(self.three_together(parts[0], stretch, parts[2]))

    def turned(self, make, i, j):
        parts = self.three_parts(make, i, j)
        return self.keep(self.three_together(parts[0], turned_all(self.way, parts[1]), parts[2]))

    def changed(self, make, i, value):
        tree = self.tree_at(make)
        check_place(i, 0, size_of(tree) - 1)
        self.check_value(value)
        parts = self.three_parts(make, i, i + 1)
        return self.keep(self.three_together(parts[0], tree_of(self.way, [value]), parts[2]))

    def put_in(self, make, i, other):
        tree = self.tree_at(make)
        second = self.tree_at(other)
        check_place(i, 0, size_of(tree))
        check_size(size_of(tree) + size_of(second))
        pair = parted_at(self.way, tree, i)
        return self.keep(self.three_together(pair[0], second, pair[1]))

    def cut(self, make, i, j):
        parts = self.three_parts(make, i, j)
        stretch = self.keep(parts[1])
        return (stretch, self.keep(put_together(self.way, parts[0], parts[2])))

    def many(self, make):
        return size_of(self.tree_at(make))

    def listed(self, make):
        return row_of(self.way, self.tree_at(make))

    def asked(self, make, i, j):
        return whole_of(self.way, self.three_parts(make, i, j)[1])

    def walk(self, make):
        return walk_of(self.way, self.tree_at(make))

    def first(self, make, i, sign):
        # A sign may come and go again as values are joined, so each place is asked in turn.
        row = self.listed(make)
        check_place(i, 0, len(row))
        if not self.way.is_sign(sign):
            raise NoSign("this is no sign")
        whole = self.way.nothing()
        for k in range(i, len(row)):
            whole = self.way.join(whole, row[k])
            if self.way.has_sign(sign, whole):
                return k
        return None
