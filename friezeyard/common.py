"""What several files of the program need."""

from friezeyard.errors import NoCorner, NoFloor, NoLine, NoRow
from friezeyard.pairs import is_side, is_whole


def is_two(thing):
    return isinstance(thing, tuple) and len(thing) == 2 and is_whole(thing[0]) and is_whole(thing[1])


# is_two is asked first: (True, 3) equals (1, 3), and would else be found among the lines.
def has_pair(cut, p):
    return is_two(p) and (is_side(cut[0], p) or p in cut[1])


def check_line(cut, p):
    if not is_two(p) or p not in cut[1]:
        raise NoLine("no line of the cutting")


def check_pair(cut, p):
    if not has_pair(cut, p):
        raise NoLine("no side and no line of the cutting")


def is_floor(thing):
    return is_whole(thing) and 3 <= thing <= 60


def check_floor(thing):
    if not is_floor(thing):
        raise NoFloor("a floor has 3 to 60 corners")


def check_row(thing):
    if not isinstance(thing, list) or not is_floor(len(thing)):
        raise NoRow("no list of 3 to 60 numbers")
    if not all([is_whole(number) for number in thing]):
        raise NoRow("a row holds whole numbers alone")


def check_corner(n, thing):
    if not is_whole(thing) or not 0 <= thing < n:
        raise NoCorner("no corner of the floor")


# The pair of the other two corners of a triangle.
def opposite(corners, corner):
    return tuple([other for other in corners if other != corner])


# Each sign is asked by itself, as int would also read blanks, a sign ahead, and _ between figures.
def is_figures(word, most):
    if not 1 <= len(word) <= most:
        return False
    if len(word) > 1 and word[0] == "0":
        return False
    return all([sign in "0123456789" for sign in word])


# The two numbers of a word A-B, in its order; None for another word.
def two_read(word):
    parts = word.split("-")
    if len(parts) != 2 or not all([is_figures(part, 2) for part in parts]):
        return None
    return (int(parts[0]), int(parts[1]))


def two_shown(two):
    a = two[0]
    b = two[1]
    return f"{a}-{b}"
