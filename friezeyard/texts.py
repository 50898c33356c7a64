"""A cutting told as a text, and a text read [9]."""

from friezeyard.cuttings import cutting
from friezeyard.errors import NoText


def shown(cut):
    n = cut[0]
    return f"{n}:" + "".join([f" {a}-{b}" for a, b in cut[1]])


def read(text):
    if not isinstance(text, str):
        raise NoText("no text")
    words = text.split(" ")
    if not words[0].endswith(":"):
        raise NoText("no colon behind the number of corners")
    n = number_read(words[0][:-1])
    return cutting(n, [two_read(word) for word in words[1:]])


def two_read(word):
    parts = word.split("-")
    if len(parts) != 2:
        raise NoText("no two numbers with a - between")
    return (number_read(parts[0]), number_read(parts[1]))


def number_read(figures):
    if not is_number(figures):
        raise NoText("no number of one or two figures")
    return int(figures)


# Each sign is asked by itself, as int would also read blanks, a sign ahead, and _ between figures.
def is_number(figures):
    if len(figures) != 1 and len(figures) != 2:
        return False
    if len(figures) == 2 and figures[0] == "0":
        return False
    return all([sign in "0123456789" for sign in figures])
