"""The fan at a corner, and the turnings that lead to it [29]."""

from friezeyard.common import check_corner, check_floor, opposite
from friezeyard.pairs import is_line, pair
from friezeyard.rooms import triangles
from friezeyard.turns import turned


# The pairs of a corner rise with the other one: so the lines stand sorted.
def fan(n, corner):
    check_floor(n)
    check_corner(n, corner)
    pairs = [pair(corner, other) for other in range(n) if other != corner]
    return (n, tuple([p for p in pairs if is_line(n, p)]))


def to_fan(cut, corner=0):
    check_corner(cut[0], corner)
    found = []
    now = cut
    facing = lines_facing(now, corner)
    while len(facing) > 0:
        found.append(facing[0])
        now = turned(now, facing[0])[0]
        facing = lines_facing(now, corner)
    return found


# A line opposite to the corner in a triangle has it as a third corner, so its turning brings a line
# that has the corner. Where none is left, only sides are opposite to it, and the cutting is the fan.
def lines_facing(cut, corner):
    facing = [opposite(corners, corner) for corners in triangles(cut) if corner in corners]
    return [p for p in facing if p in cut[1]]
