"""The texts of algebras: an algebra written as lines, and read again."""

from stretchdeeds.algebras import MOST_AROUND, MOST_DEEDS, MOST_SIGNS, MOST_VALUES
from stretchdeeds.algebras import is_name, is_rising, join_by, rows_by
from stretchdeeds.errors import NoText
from stretchdeeds.termtexts import MOST_FIGURES, is_figures, read_term


def show_row(row):
    return " ".join([str(value) for value in row])


def show_rows(rows):
    return "rows " + ", ".join([show_row(row) for row in rows])


def show_sign(name, values):
    return " ".join(["sign", name] + [str(value) for value in values])


def show_algebra(algebra):
    lines = ["values " + str(algebra[0]) + " around " + str(algebra[1])]
    lines.append("join " + show_rows(algebra[2]))
    lines.append("nothing " + str(algebra[3]))
    lines.extend(["deed " + name + " " + show_rows(rows) for name, rows in algebra[4]])
    lines.extend([show_sign(name, values) for name, values in algebra[5]])
    return "\n".join(lines)


# Each of the following gives None for what is not as told: which line that is, is known further below alone.


def read_number(word, least, most):
    if not is_figures(word, MOST_FIGURES):
        return None
    number = int(word)
    return number if least <= number <= most else None


def read_row(words, n):
    row = [read_number(word, 0, n - 1) for word in words]
    return None if None in row else row


def read_rows(text, many, n):
    rows = [read_row(row.split(" "), n) for row in text.split(", ")]
    if len(rows) != many or not all([row is not None and len(row) == n for row in rows]):
        return None
    return rows


def read_some_term(text, names):
    try:
        return read_term(text, names)
    except NoText:
        return None


def read_join_table(text, n):
    parts = text.partition(" ")
    if parts[0] == "rows":
        return read_rows(parts[2], n, n)
    term = read_some_term(text, ["a", "b"])
    return None if term is None else join_by(n, term)


def read_deed_table(text, n, m):
    parts = text.partition(" ")
    if parts[0] == "rows":
        return read_rows(parts[2], m, n)
    term = read_some_term(text, ["a", "c"])
    return None if term is None else rows_by(n, m, term)


def read_sizes(line):
    words = line.split(" ")
    if len(words) != 4 or words[0] != "values" or words[2] != "around":
        return None
    n = read_number(words[1], 1, MOST_VALUES)
    m = read_number(words[3], 1, MOST_AROUND)
    return None if n is None or m is None else (n, m)


def read_join(line, n):
    parts = line.partition(" ")
    return read_join_table(parts[2], n) if parts[0] == "join" else None


def read_nothing(line, n):
    words = line.split(" ")
    if len(words) != 2 or words[0] != "nothing":
        return None
    return read_number(words[1], 0, n - 1)


def is_new(name, told):
    return is_name(name) and name not in [one[0] for one in told]


def read_deed(line, n, m, told):
    # That the first word is deed was seen when the line was taken for a deed's.
    words = line.split(" ", 2)
    if len(words) != 3 or not is_new(words[1], told) or len(told) == MOST_DEEDS:
        return None
    rows = read_deed_table(words[2], n, m)
    return None if rows is None else (words[1], rows)


def read_sign(line, n, told):
    words = line.split(" ")
    if len(words) < 2 or words[0] != "sign" or not is_new(words[1], told) or len(told) == MOST_SIGNS:
        return None
    values = read_row(words[2:], n)
    return None if values is None or not is_rising(values) else (words[1], values)


# From here on what is not as told is refused.


def line_at(lines, at):
    if at == len(lines):
        raise NoText(at)
    return lines[at]


def as_told(thing, at):
    if thing is None:
        raise NoText(at)
    return thing


def read_deeds(lines, n, m):
    deeds = []
    for at in range(3, len(lines)):
        # Any other line ends the deeds, and is a sign's or refused with the signs.
        if not lines[at].startswith("deed "):
            break
        deeds.append(as_told(read_deed(lines[at], n, m, deeds), at))
    return deeds


def read_signs(lines, start, n):
    signs = []
    for at in range(start, len(lines)):
        signs.append(as_told(read_sign(lines[at], n, signs), at))
    return signs


def read_algebra(text):
    lines = text.split("\n")
    sizes = as_told(read_sizes(lines[0]), 0)
    n = sizes[0]
    m = sizes[1]
    join = as_told(read_join(line_at(lines, 1), n), 1)
    nothing = as_told(read_nothing(line_at(lines, 2), n), 2)
    deeds = read_deeds(lines, n, m)
    signs = read_signs(lines, 3 + len(deeds), n)
    return (n, m, join, nothing, deeds, signs)
