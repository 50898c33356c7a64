"""The fraction of a pair of corners over a cutting [26, 27]."""

from friezeyard.common import is_two, opposite
from friezeyard.errors import NoLine
from friezeyard.letters import letters
from friezeyard.rooms import triangles
from friezeyard.sharings import sharings
from friezeyard.sums import sum_from


# Refused with TooMany by the sharings, whose corners are known to be good by then.
def fraction(cut, p):
    check_corners(cut[0], p)
    found = {}
    for given in sharings(cut, p[0], p[1]):
        powers = powers_of(cut, given)
        found[powers] = found.get(powers, 0) + 1
    return sum_from(found)


def check_corners(n, p):
    if not is_two(p) or not 0 <= p[0] < p[1] < n:
        raise NoLine("no pair of two corners of the floor")


def powers_of(cut, given):
    above = [opposite(corners, corner) for corners, corner in zip(triangles(cut), given)]
    return tuple([above.count(p) - cut[1].count(p) for p in letters(cut)])
