"""Terms: what one is, and its worth by a whole number."""

MOST_TERMS = 40
MOST_WITHIN = 12
LETTERS = ("a", "b", "c")
PARTS = {"add": 2, "take": 2, "times": 2, "most": 2, "least": 2, "same": 4}


def is_whole(thing):
    return isinstance(thing, int) and not isinstance(thing, bool)


def is_number(thing):
    return is_whole(thing) and 0 <= thing < 10 ** 60


def is_let(thing, names):
    return isinstance(thing, str) and thing in LETTERS and thing in names


def parts_after(word):
    return PARTS.get(word, 0)


def is_headed(thing, names):
    # The first word is asked for its kind ahead of all else: things of other kinds can't all be looked up or compared.
    if not isinstance(thing, tuple) or len(thing) < 2 or not isinstance(thing[0], str):
        return False
    if thing[0] == "number":
        return len(thing) == 2 and is_number(thing[1])
    if thing[0] == "name":
        return len(thing) == 2 and is_let(thing[1], names)
    return thing[0] in PARTS and len(thing) == 1 + PARTS[thing[0]]


def parts_of_all(terms):
    parts = []
    for term in terms:
        if term[0] in PARTS:
            parts.extend(term[1:])
    return parts


def is_term(thing, names):
    # Level by level, so that the bounds end the walk early, however great or deep the thing is.
    level = [thing]
    within = 0
    many = 1
    while level:
        if many > MOST_TERMS or within > MOST_WITHIN:
            return False
        if not all([is_headed(part, names) for part in level]):
            return False
        level = parts_of_all(level)
        within = within + 1
        many = many + len(level)
    return True


def of_two(word, one, other):
    if word == "add":
        return one + other
    if word == "take":
        return one - other
    if word == "times":
        return one * other
    if word == "most":
        return max(one, other)
    return min(one, other)


def worth(term, n, numbers):
    word = term[0]
    if word == "number":
        return term[1] % n
    if word == "name":
        return numbers[term[1]] % n
    one = worth(term[1], n, numbers)
    other = worth(term[2], n, numbers)
    if word == "same":
        chosen = term[3] if one == other else term[4]
        return worth(chosen, n, numbers)
    return of_two(word, one, other) % n
