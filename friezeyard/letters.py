"""The letters of a cutting, and a letter as a sum [25]."""

from friezeyard.common import check_pair
from friezeyard.pairs import pair


def letters(cut):
    n = cut[0]
    sides = [pair(c, (c + 1) % n) for c in range(n)]
    return sorted(sides + list(cut[1]))


def letter(cut, p):
    check_pair(cut, p)
    return [(tuple([1 if own == p else 0 for own in letters(cut)]), 1)]
