"""Least algebras, of which no two values are alike, and pictures of one algebra in another one."""

from stretchdeeds.algebras import check_let_by, is_row
from stretchdeeds.alikes import all_steps


def numbered(keys):
    # The same number for the same key, in the order in which they first come: so classes go by their least values.
    numbers = {}
    for key in keys:
        numbers.setdefault(key, len(numbers))
    return [numbers[key] for key in keys]


def signs_of(algebra, value):
    return tuple([value in values for name, values in algebra[5]])


def class_numbers(algebra):
    # Parted by the signs first, then by the classes that one more step leads to, till no class is parted any more.
    places = list(range(algebra[0]))
    rows = [places] + [row for step, row in all_steps(algebra)]
    numbers = numbered([signs_of(algebra, a) for a in places])
    finer = numbered([tuple([numbers[row[a]] for row in rows]) for a in places])
    while finer != numbers:
        numbers = finer
        finer = numbered([tuple([numbers[row[a]] for row in rows]) for a in places])
    return numbers


def least_algebra(algebra):
    check_let_by(algebra)
    numbers = class_numbers(algebra)
    # For each class its least value stands: any other one would tell the same.
    chosen = [numbers.index(k) for k in range(len(set(numbers)))]
    join = [[numbers[algebra[2][a][b]] for b in chosen] for a in chosen]
    deeds = [(name, [[numbers[row[a]] for a in chosen] for row in rows]) for name, rows in algebra[4]]
    signs = [(name, [numbers[a] for a in chosen if a in values]) for name, values in algebra[5]]
    return ((len(chosen), algebra[1], join, numbers[algebra[3]], deeds, signs), numbers)


def names_of(told):
    return [part[0] for part in told]


def are_akin(one, other):
    if one[1] != other[1]:
        return False
    return names_of(one[4]) == names_of(other[4]) and names_of(one[5]) == names_of(other[5])


def keeps_join(one, other, numbers):
    for a in range(one[0]):
        for b in range(one[0]):
            if numbers[one[2][a][b]] != other[2][numbers[a]][numbers[b]]:
                return False
    return numbers[one[3]] == other[3]


def keeps_rows(rows, others, numbers):
    for row, beside in zip(rows, others):
        if [numbers[value] for value in row] != [beside[number] for number in numbers]:
            return False
    return True


def keeps_sign(values, others, numbers):
    return all([(a in values) == (number in others) for a, number in enumerate(numbers)])


def is_picture(one, other, numbers):
    if not are_akin(one, other) or len(numbers) != one[0] or not is_row(numbers, other[0]):
        return False
    if not keeps_join(one, other, numbers):
        return False
    if not all([keeps_rows(deed[1], beside[1], numbers) for deed, beside in zip(one[4], other[4])]):
        return False
    return all([keeps_sign(sign[1], beside[1], numbers) for sign, beside in zip(one[5], other[5])])
