"""What can come: the pairs of a value and a count that rows of told values come to, and the least row for a sign."""

from stretchdeeds.algebras import check_let_by


def two_of(algebra, entries, p, q):
    one = entries[p]
    other = entries[q]
    return (algebra[2][one[0]][other[0]], (one[1] + other[1]) % algebra[1], ("two", p, q))


def following(algebra, entries, at):
    # With later entries this one is joined when their turn comes.
    value = entries[at][0]
    c = entries[at][1]
    found = [(rows[c][value], c, ("deed", name, at)) for name, rows in algebra[4]]
    for p in range(at + 1):
        found.extend([two_of(algebra, entries, p, at), two_of(algebra, entries, at, p)])
    return found


def take_new(entries, known, found):
    for entry in found:
        pair = (entry[0], entry[1])
        if pair not in known:
            known[pair] = True
            entries.append(entry)


def coming(algebra, row):
    check_let_by(algebra)
    entries = []
    known = {}
    take_new(entries, known, [(algebra[3], 0, ("none",))])
    take_new(entries, known, [(value, 1 % algebra[1], ("one", value)) for value in row])
    at = 0
    while at < len(entries):
        take_new(entries, known, following(algebra, entries, at))
        at += 1
    return entries


def comes(algebra, row, name):
    entries = coming(algebra, row)
    values = dict(algebra[5])[name]
    for at, entry in enumerate(entries):
        if entry[0] in values:
            return ("comes", entries, at)
    return ("never", entries)


def least_rows(algebra, values):
    # By value the least row of one or more that comes to it. They come by their length, of one length rising, and a
    # row that comes to a value again is never needed: what is joined behind it can stand behind the elder one.
    rows = dict([(value, [value]) for value in values])
    came = list(values)
    at = 0
    while at < len(came):
        for value in values:
            whole = algebra[2][came[at]][value]
            if whole not in rows:
                rows[whole] = rows[came[at]] + [value]
                came.append(whole)
        at += 1
    return rows


def least_row(algebra, row, name):
    signed = dict(algebra[5])[name]
    if algebra[3] in signed:
        return []
    rows = least_rows(algebra, sorted(set(row)))
    for value in rows:
        if value in signed:
            return rows[value]
    return None
