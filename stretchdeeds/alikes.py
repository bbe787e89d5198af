"""Values alike: what frames make of a value, and frames by which two values are told apart."""


def stepped(algebra, step, value):
    if step[0] == "left":
        return algebra[2][step[1]][value]
    if step[0] == "right":
        return algebra[2][value][step[1]]
    return dict(algebra[4])[step[1]][step[2]][value]


def framed(algebra, steps, value):
    came = value
    for step in steps:
        came = stepped(algebra, step, came)
    return came


def all_steps(algebra):
    # With each step goes a row: at [a] stands what it makes of a.
    join = algebra[2]
    places = list(range(algebra[0]))
    found = [(("left", x), join[x]) for x in places] + [(("right", x), [row[x] for row in join]) for x in places]
    for name, rows in algebra[4]:
        found.extend([(("deed", name, c), row) for c, row in enumerate(rows)])
    return found


def telling_sign(algebra, one, other):
    for name, values in algebra[5]:
        if (one in values) != (other in values):
            return name
    return None


def told_apart(algebra, one, other):
    # Pairs are come to by ever more steps, so the first one that a sign tells apart has as few as can be.
    steps = all_steps(algebra)
    pairs = [(one, other)]
    frames = {(one, other): []}
    at = 0
    while at < len(pairs):
        pair = pairs[at]
        name = telling_sign(algebra, pair[0], pair[1])
        if name is not None:
            return ("frame", frames[pair], name)
        for step, row in steps:
            came = (row[pair[0]], row[pair[1]])
            if came not in frames:
                frames[came] = frames[pair] + [step]
                pairs.append(came)
        at += 1
    return ("alike",)
