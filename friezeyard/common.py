"""What several files of the program need."""

from friezeyard.pairs import is_side, is_whole


def is_two(thing):
    return isinstance(thing, tuple) and len(thing) == 2 and is_whole(thing[0]) and is_whole(thing[1])


# is_two is asked first: (True, 3) equals (1, 3), and would else be found among the lines.
def has_pair(cut, p):
    return is_two(p) and (is_side(cut[0], p) or p in cut[1])
