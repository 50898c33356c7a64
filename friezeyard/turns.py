"""A line turned over into the other one of its four-cornered room, and the corners of that room [20, 21]."""

from friezeyard.common import check_line
from friezeyard.rooms import thirds


def turned(cut, line):
    check_line(cut, line)
    new = tuple(thirds(cut, line))
    kept = [old for old in cut[1] if old != line]
    return ((cut[0], tuple(sorted(kept + [new]))), new)


def four_of(cut, line):
    check_line(cut, line)
    return tuple(sorted(list(line) + thirds(cut, line)))
