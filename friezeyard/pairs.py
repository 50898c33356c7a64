"""Whole numbers, pairs of them, and what a pair is to a floor [2, 4, 5]."""


# Python counts True and False among the ints; a floor does not.
def is_whole(thing):
    return isinstance(thing, int) and not isinstance(thing, bool)


def pair(a, b):
    return (a, b) if a < b else (b, a)


def is_side(n, p):
    a = p[0]
    b = p[1]
    if a < 0 or b >= n:
        return False
    return b == a + 1 or (a == 0 and b == n - 1)


def is_line(n, p):
    return 0 <= p[0] < p[1] < n and not is_side(n, p)


def cross(p, other):
    a = p[0]
    b = p[1]
    c = other[0]
    d = other[1]
    return a < c < b < d or c < a < d < b
