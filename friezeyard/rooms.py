"""The rooms into which lines cut a floor, the triangles of a cutting, and third corners [8]."""

from friezeyard.common import check_pair


# The first and the last corner of a room are a line or the side (0, n - 1), and each of these
# bounds in this way just one room: so there is one room to be found for each of them.
def rooms(n, lines):
    tops = [(0, n - 1)] + list(lines)
    return sorted([room_under(top, lines) for top in tops])


def room_under(top, lines):
    room = [top[0]]
    while room[-1] < top[1]:
        room.append(corner_behind(room[-1], top, lines))
    return tuple(room)


# Of several lines that lead on, all but the farthest bound rooms behind that one.
def corner_behind(corner, top, lines):
    ends = [line[1] for line in lines if line[0] == corner and line[1] <= top[1] and line != top]
    return max(ends, default=corner + 1)


def triangles(cut):
    return rooms(cut[0], cut[1])


def thirds(cut, p):
    check_pair(cut, p)
    both = [corners for corners in triangles(cut) if p[0] in corners and p[1] in corners]
    return sorted([sum(corners) - sum(p) for corners in both])
