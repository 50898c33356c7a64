"""The cuttings of a floor numbered: how many there are, the place of a cutting, the cutting at a place [32]."""

from friezeyard.common import check_floor
from friezeyard.errors import NoPlace
from friezeyard.pairs import is_line, is_whole
from friezeyard.rooms import triangles


def count(n):
    check_floor(n)
    return stretch_counts(n)[n - 1]


# How many cuttings a stretch has, by how far its last corner lies above its first one, below n.
def stretch_counts(n):
    found = [0, 1]
    for length in range(2, n):
        found.append(sum([found[k] * found[length - k] for k in range(1, length)]))
    return found


def place(cut):
    n = cut[0]
    middles = dict([((a, b), c) for a, c, b in triangles(cut)])
    return place_in(stretch_counts(n), middles, 0, n - 1)


def place_in(counts, middles, a, b):
    if b == a + 1:
        return 0
    c = middles[(a, b)]
    ahead = sum([counts[lower - a] * counts[b - lower] for lower in range(a + 1, c)])
    return ahead + place_in(counts, middles, a, c) * counts[b - c] + place_in(counts, middles, c, b)


def at_place(n, k):
    check_floor(n)
    counts = stretch_counts(n)
    if not is_whole(k) or not 0 <= k < counts[n - 1]:
        raise NoPlace("no place of a cutting of the floor")
    return (n, tuple(sorted([p for p in stretches_at(counts, 0, n - 1, k) if is_line(n, p)])))


# The stretch from a to b, and all those into which its cutting at the place k parts it.
def stretches_at(counts, a, b, k):
    if b == a + 1:
        return [(a, b)]
    c = a + 1
    rest = k
    while rest >= counts[c - a] * counts[b - c]:
        rest -= counts[c - a] * counts[b - c]
        c += 1
    low = stretches_at(counts, a, c, rest // counts[b - c])
    high = stretches_at(counts, c, b, rest % counts[b - c])
    return [(a, b)] + low + high
