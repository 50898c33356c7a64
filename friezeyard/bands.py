"""The band of a row: its strip, where it closes, its ones, and the cutting read off [14, 15, 16, 17]."""

from friezeyard.common import check_row
from friezeyard.errors import NoBand
from friezeyard.numbers import numbers
from friezeyard.pairs import is_side


def strip(row):
    check_row(row)
    return [band_from(row, i) for i in range(len(row))]


# m(i, i + d) for d from 0 to n + 1.
def band_from(row, i):
    n = len(row)
    found = [0, 1]
    for d in range(1, n + 1):
        found.append(row[(i + d) % n] * found[d] - found[d - 1])
    return found


def closes(row):
    return all([is_closed(found) for found in strip(row)])


def is_closed(found):
    n = len(found) - 2
    return min(found[1:n]) > 0 and found[n] == 0 and found[n + 1] == -1


# The band of a cutting comes again with the other sign when i or j goes on by n.
def entry(cut, i, j):
    n = cut[0]
    found = band_from(numbers(cut), i % n)[(j - i) % n]
    return found if (j - i) // n % 2 == 0 else -found


def ones(row):
    found = []
    for a, numbers_from in enumerate(strip(row)):
        found.extend([(a, b) for b in range(a + 1, len(row)) if numbers_from[b - a] == 1])
    return [p for p in found if not is_side(len(row), p)]


def read_off(row):
    if not closes(row):
        raise NoBand("the band does not close")
    return (len(row), tuple(ones(row)))
