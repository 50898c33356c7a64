"""The ways to share out the triangles of a cutting among its corners so that two go without [19]."""

from friezeyard.common import check_corner
from friezeyard.errors import TooMany
from friezeyard.rooms import triangles


# With alike corners one corner more waits than there are triangles.
def sharings(cut, i, j):
    check_corner(cut[0], i)
    check_corner(cut[0], j)
    if cut[0] > 12:
        raise TooMany("sharings are told of at most twelve corners")
    if i == j:
        return []
    begun = [()]
    for corners in triangles(cut):
        begun = carried_on(begun, [c for c in corners if c != i and c != j])
    return begun


# As the corners rise, what is carried on stays sorted. No corner is given twice, and there are as
# many triangles as other corners: so at the end each of these is given once.
def carried_on(begun, corners):
    found = []
    for given in begun:
        found.extend([given + (corner,) for corner in corners if corner not in given])
    return found
