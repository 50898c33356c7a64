"""The spread of a cutting from a corner [18]."""

from friezeyard.common import check_corner
from friezeyard.rooms import triangles


# A corner that is y of no triangle makes a side or a line with the first one, and keeps its 1.
def spread(cut, corner):
    check_corner(cut[0], corner)
    found = [1] * cut[0]
    found[corner] = 0
    for x, y, z in met_from(cut, corner):
        found[y] = found[x] + found[z]
    return found


# The wider a triangle lies, the nearer it is to the corner: so x and z are known when y is asked.
def met_from(cut, corner):
    n = cut[0]
    met = [going_round(n, corner, corners) for corners in triangles(cut) if corner not in corners]
    return sorted(met, key=lambda corners: (corners[0] - corners[2]) % n)


# x, y, z: in the order in which they are met, going round upwards from the corner.
def going_round(n, corner, corners):
    return sorted(corners, key=lambda each: (each - corner) % n)
