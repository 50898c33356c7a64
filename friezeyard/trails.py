"""The trail of a row, which takes off corner by corner, and the cutting of a row [11, 12]."""

from friezeyard.common import check_row
from friezeyard.errors import Fallen
from friezeyard.pairs import pair


def trail(row):
    check_row(row)
    left = list(row)
    standing = list(range(len(row)))
    steps = []
    fell = falls_at(standing, left)
    while fell is None and len(standing) > 3:
        steps.append(take_off(standing, left))
        fell = falls_at(standing, left)
    return (steps, fell)


# None where nothing falls: then a corner has 1, or just three stand and all have 1.
def falls_at(standing, left):
    low = [corner for corner in standing if left[corner] < 1]
    unlike_one = [corner for corner in standing if left[corner] != 1]
    if len(low) > 0:
        return low[0]
    if len(standing) == 3 and len(unlike_one) > 0:
        return unlike_one[0]
    if len(unlike_one) == len(standing):
        return standing[0]
    return None


# The corners stand in rising order, so place - 1 and place + 1, going round, are the neighbours.
def take_off(standing, left):
    corner = [each for each in standing if left[each] == 1][0]
    place = standing.index(corner)
    before = standing[place - 1]
    behind = standing[(place + 1) % len(standing)]
    left[before] -= 1
    left[behind] -= 1
    standing.pop(place)
    return (corner, before, behind)


def cutting_of(row):
    told = trail(row)
    if told[1] is not None:
        raise Fallen(told[1])
    return (len(row), tuple(sorted([pair(step[1], step[2]) for step in told[0]])))
