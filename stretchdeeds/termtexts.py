"""The texts of terms: a term written as words, and read again."""

from stretchdeeds.errors import NoText
from stretchdeeds.terms import MOST_TERMS, MOST_WITHIN, is_let, parts_after

FIGURES = "0123456789"
MOST_FIGURES = 60


def show_term(term):
    if term[0] == "number":
        return str(term[1])
    if term[0] == "name":
        return term[1]
    return " ".join([term[0]] + [show_term(part) for part in term[1:]])


def is_figures(word, most):
    if word == "" or len(word) > most:
        return False
    if word[0] == "0" and word != "0":
        return False
    return all([sign in FIGURES for sign in word])


def fits(word, within, names):
    if parts_after(word) > 0:
        return within < MOST_WITHIN
    return is_figures(word, MOST_FIGURES) or is_let(word, names)


def first_fault(words, names):
    # Of each term that is still wanted, the next one first, it is kept within how many others it will stand.
    # Each of them can be a 0, so nothing but these checks keeps the words from being the beginning of a text.
    wanted = [0]
    for at, word in enumerate(words):
        if len(wanted) == 0 or not fits(word, wanted[0], names):
            return at
        wanted = [wanted[0] + 1] * parts_after(word) + wanted[1:]
        if at + 1 + len(wanted) > MOST_TERMS:
            return at
    return len(words) if len(wanted) > 0 else None


def leaf_of(word):
    if is_figures(word, MOST_FIGURES):
        return ("number", int(word))
    return ("name", word)


def term_of(words):
    # From the last word on, so that the parts of a term are there when its first word comes.
    ready = []
    for word in reversed(words):
        many = parts_after(word)
        term = leaf_of(word) if many == 0 else tuple([word] + ready[:many])
        ready = [term] + ready[many:]
    return ready[0]


def read_term(text, names):
    words = text.split(" ")
    fault = first_fault(words, names)
    if fault is not None:
        raise NoText(fault)
    return term_of(words)
