"""The distances from a cutting, and a way of turnings from a cutting to another one [30, 31]."""

from friezeyard.errors import NotAlike, TooMany
from friezeyard.fans import to_fan
from friezeyard.numbers import numbers
from friezeyard.pairs import is_line
from friezeyard.rooms import rooms
from friezeyard.turns import turned


def distances(cut):
    if cut[0] > 8:
        raise TooMany("distances are told of at most eight corners")
    return sorted([(found, step[0]) for found, step in steps_to(cut).items()])


# For each cutting of the floor: its distance from the given one, and a line whose turning leads
# nearer to that (None for the given one itself).
def steps_to(cut):
    found = {cut: (0, None)}
    front = [cut]
    while len(front) > 0:
        front = front_behind(front, found)
    return found


# The line that came by a turning is the one whose turning leads back.
def front_behind(front, found):
    behind = []
    for cut in front:
        for line in cut[1]:
            step = turned(cut, line)
            if step[0] not in found:
                found[step[0]] = (found[cut][0] + 1, step[1])
                behind.append(step[0])
    return behind


def way_to(one, other):
    if one[0] != other[0]:
        raise NotAlike("the cuttings are of unlike floors")
    both = [line for line in one[1] if line in other[1]]
    way = []
    for room in rooms(one[0], both):
        way.extend(way_in_room(room, one, other))
    return way


# All cuttings of a great room are too many to look at.
def way_in_room(room, one, other):
    start = part_in(room, one)
    end = part_in(room, other)
    way = shortest(start, end) if len(room) <= 8 else over_fan(start, end)
    return [(room[a], room[b]) for a, b in way]


# The room as a floor of its own, each corner called by its place in the room.
def part_in(room, cut):
    inside = [(room.index(a), room.index(b)) for a, b in cut[1] if a in room and b in room]
    return (len(room), tuple([line for line in inside if is_line(len(room), line)]))


def shortest(start, end):
    steps = steps_to(end)
    way = []
    now = start
    while now != end:
        way.append(steps[now][1])
        now = turned(now, way[-1])[0]
    return way


# The more lines have the corner ahead, the fewer turnings lead to its fan: so the corner is taken
# that has the most of both cuttings together.
def over_fan(start, end):
    both = [a + b for a, b in zip(numbers(start), numbers(end))]
    corner = both.index(max(both))
    return to_fan(start, corner) + back_from(end, to_fan(end, corner))


# The way walked the other way round: the lines that came, the last one first.
def back_from(cut, way):
    came = []
    now = cut
    for line in way:
        step = turned(now, line)
        came.append(step[1])
        now = step[0]
    return list(reversed(came))
