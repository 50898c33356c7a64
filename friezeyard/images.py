"""A cutting spun and mirrored, its least image, its keepers, and the unlike cuttings of a floor [33]."""

from friezeyard.common import check_floor
from friezeyard.errors import TooMany
from friezeyard.pairs import pair
from friezeyard.places import at_place, count


def spun(cut, by=1):
    n = cut[0]
    return image(cut, [(corner + by) % n for corner in range(n)])


def mirrored(cut):
    n = cut[0]
    return image(cut, [(n - corner) % n for corner in range(n)])


# becomes holds, corner by corner, what each one becomes.
def image(cut, becomes):
    return (cut[0], tuple(sorted([pair(becomes[a], becomes[b]) for a, b in cut[1]])))


# All (cutting, over, by): those that are not mirrored ahead, and by rising.
def all_images(cut):
    straight = [(spun(cut, by), False, by) for by in range(cut[0])]
    over = mirrored(cut)
    return straight + [(spun(over, by), True, by) for by in range(cut[0])]


# Where several images are alike, the least tuple is not mirrored if one of them is not, and has the least by.
def least_image(cut):
    least = min(all_images(cut))
    return (least[0], least[2], least[1])


def keepers(cut):
    return sorted([(by, over) for found, over, by in all_images(cut) if found == cut])


def unlike(n):
    check_floor(n)
    if n > 8:
        raise TooMany("unlike cuttings are told of at most eight corners")
    return sorted(set([least_image(at_place(n, k))[0] for k in range(count(n))]))
