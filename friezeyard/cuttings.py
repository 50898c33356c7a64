"""A cutting made of the number of corners and a list of lines [6, 7]."""

from friezeyard.common import check_floor, is_two
from friezeyard.errors import Crossed, NoLine, NotFull
from friezeyard.pairs import cross, is_line, pair
from friezeyard.rooms import rooms


def cutting(n, lines):
    check_floor(n)
    found = [line_of(n, thing) for thing in lines]
    check_uncrossed(found)
    if len(found) < n - 3:
        raise NotFull(free_line(n, found))
    return (n, tuple(sorted(found)))


def line_of(n, thing):
    if not is_two(thing):
        raise NoLine("no tuple of two whole numbers")
    line = pair(thing[0], thing[1])
    if not is_line(n, line):
        raise NoLine("no line of the floor")
    return line


def check_uncrossed(lines):
    for k, other in enumerate(lines):
        for one in lines[:k]:
            if one == other or cross(one, other):
                raise Crossed(one, other)


# Of a room with more than three corners the first and the third are no neighbours round the floor:
# the second lies between them on the one way, the last on the other. No line crosses a room.
def free_line(n, lines):
    wide = [room for room in rooms(n, lines) if len(room) > 3]
    return (wide[0][0], wide[0][2])
