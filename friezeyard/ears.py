"""A cutting grown at a corner, and a corner shorn [13]."""

from friezeyard.common import check_corner
from friezeyard.errors import NoEar, TooMany
from friezeyard.numbers import numbers
from friezeyard.pairs import pair


def grown(cut, at):
    check_corner(cut[0], at)
    n = cut[0] + 1
    if n > 60:
        raise TooMany("the floor has 60 corners already")
    old_side = neighbours(n, at + 1)
    lines = [(moved(a, at, 1), moved(b, at, 1)) for a, b in cut[1]]
    return (n, tuple(sorted(lines + [old_side])))


def shorn(cut, corner):
    check_corner(cut[0], corner)
    n = cut[0]
    if n == 3 or numbers(cut)[corner] != 1:
        raise NoEar("the corner can't be taken off")
    new_side = neighbours(n, corner)
    lines = [(moved(a, corner, -1), moved(b, corner, -1)) for a, b in cut[1] if (a, b) != new_side]
    return (n - 1, tuple(lines))


def neighbours(n, corner):
    return pair((corner - 1) % n, (corner + 1) % n)


# No corner passes another one: so lines that stand sorted stay so.
def moved(corner, above, by):
    return corner + by if corner > above else corner
