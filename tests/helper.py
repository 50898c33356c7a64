"""Floors made here from the document's words alone, without the program under test."""

from itertools import combinations

SIXTY = 10 ** 60 - 1  # the greatest whole number of sixty figures


def all_pairs(n):
    return list(combinations(range(n), 2))


def sides_of(n):
    return sorted([(c, c + 1) for c in range(n - 1)] + [(0, n - 1)])


def lines_of(n):
    sides = set(sides_of(n))
    return [p for p in all_pairs(n) if p not in sides]


def do_cross(p, q):
    """Two pairs without a common corner cross where just one corner of the second lies within the first."""
    if set(p) & set(q):
        return False
    return len([c for c in q if p[0] < c < p[1]]) == 1


def uncrossed_sets(n):
    """All sets of lines of the floor without two that cross, each as a sorted tuple."""
    found = [()]
    for line in lines_of(n):
        found += [old + (line,) for old in found if not any(do_cross(line, other) for other in old)]
    return found


def all_cuttings(n):
    return [(n, lines) for lines in uncrossed_sets(n) if len(lines) == n - 3]


def is_room(n, lines, corners):
    """Point 8, word by word, of a rising tuple of corners."""
    around = list(zip(corners, corners[1:])) + [(corners[0], corners[-1])]
    if not all(p in sides_of(n) or p in lines for p in around):
        return False
    return all(p in around for p in lines if p[0] in corners and p[1] in corners)


def rooms_by_the_words(n, lines):
    return sorted(corners for size in range(3, n + 1) for corners in combinations(range(n), size)
                  if is_room(n, lines, corners))


def fan_lines(n, corner):
    """The lines of the cutting all of whose lines have the corner."""
    return tuple(p for p in lines_of(n) if corner in p)


def zigzag_lines(n):
    """The lines of a cutting that go to and fro between both ends of the floor."""
    low, high, found = 0, n - 1, []
    while len(found) < n - 3:
        if len(found) % 2 == 0:
            low += 1
        else:
            high -= 1
        found.append((low, high))
    return tuple(sorted(found))


def numbers_by_the_words(n, lines):
    """How many triangles of the cutting have each corner; a triangle of a cutting is three joined corners."""
    joined = set(sides_of(n)) | set(lines)
    found = [corners for corners in combinations(range(n), 3) if all(p in joined for p in combinations(corners, 2))]
    return [len([corners for corners in found if c in corners]) for c in range(n)]


def nested_lines(n):
    """The lines of a cutting that halves the floor, and then each part of it, again and again."""
    found, parts = [], [(0, n - 1)]
    while parts:
        a, b = parts.pop()
        if b - a > 1:
            middle = (a + b) // 2
            parts += [(a, middle), (middle, b)]
            found += [p for p in ((a, middle), (middle, b)) if p in lines_of(n)]
    return tuple(sorted(found))


def some_cuttings(n):
    """A few cuttings of a great floor, unlike each other."""
    return [(n, lines) for lines in (fan_lines(n, 0), fan_lines(n, n // 2), fan_lines(n, n - 1), zigzag_lines(n),
                                     nested_lines(n))]


NO_WHOLE_NUMBERS = (None, True, False, "", "3", "0", (), (3,), [], [3], {}, {3: 3}, 3.0, 0.0, object())
NO_FLOORS = NO_WHOLE_NUMBERS + (2, 1, -1, -3, -60, 61, 62, 100, SIXTY, -SIXTY, "6", [6], (6,), 6.0)
NO_ROWS = (None, True, 3, "111", "", (), (1, 1, 1), (1, 2, 1, 2), {0: 1, 1: 1, 2: 1}, {1, 2, 3}, range(3), 1.0,
           object(), [], [1], [1, 1], [1] * 61, [1] * 62, [0] * 61, [True, 1, 1], [1, True, True], [1, 1, False],
           [1, 1, "1"], [1, 1, None], [1, 1, 1.0], [1, 1, (1,)], [[1, 1, 1]], [[1], [1], [1]], [1, 2, 1, 2, None],
           [True] * 60)


def no_corners(n):
    """Things of every kind that are no corners of a floor of n."""
    return NO_WHOLE_NUMBERS + (-1, -n, n, n + 1, SIXTY, -SIXTY, (0, 1), [0], "1", {0: 0})


def band_by_the_words(row, i, j):
    """m(i, j) of point 14, reckoned step by step upwards or downwards."""
    n, last, here, at = len(row), 0, 1, i + 1
    while at < j:
        last, here, at = here, row[at % n] * here - last, at + 1
    while at > j:
        last, here, at = row[(at - 1) % n] * last - here, last, at - 1
    return here


def rows_near(row):
    """A few rows that differ from the row at one place."""
    return [row[:k] + [row[k] + by] + row[k + 1:] for k in range(len(row)) for by in (-1, 1)]


def no_pairs_of(n, pairs):
    """Tuples of two whole numbers that are none of the pairs given, turned about and beyond the floor too."""
    about = [(b, a) for a, b in all_pairs(n)] + [(c, c) for c in range(n)]
    beyond = [(-1, 0), (-1, 2), (0, n), (2, n), (n - 1, n), (n, n + 2), (-3, -1), (0, SIXTY), (-SIXTY, 2), (SIXTY, 0)]
    return [p for p in all_pairs(n) if p not in pairs] + about + beyond


def turn_over(cut, line):
    """The cutting and the new line where a line is turned: its corners are joined with two others, each with both."""
    n, lines = cut
    if line not in lines:
        raise AssertionError(f"{line} is no line of {cut}")
    joined = set(sides_of(n)) | set(lines)
    new = tuple(c for c in range(n) if c not in line and all(tuple(sorted((c, end))) in joined for end in line))
    return (n, tuple(sorted(set(lines) - {line} | {new}))), new


def all_turns(cut):
    return [turn_over(cut, line)[0] for line in cut[1]]


def walk_over(cut, way):
    """All cuttings on a way of turnings, and all lines that came."""
    cuts, came = [cut], []
    for line in way:
        now, new = turn_over(cuts[-1], line)
        cuts.append(now)
        came.append(new)
    return cuts, came


def distances_by_steps(cut):
    """How many turnings lead from the cutting to each other one at least, walked step by step."""
    found, front, steps = {cut: 0}, [cut], 0
    while front:
        steps += 1
        front = sorted({other for now in front for other in all_turns(now)} - set(found))
        found.update({other: steps for other in front})
    return found


def drawn_cutting(n, draw):
    """A cutting, each stretch of which is parted at a drawn corner; draw is a random.Random with a seed."""
    found, parts = [], [(0, n - 1)]
    while parts:
        a, b = parts.pop()
        if b - a > 1:
            middle = draw.randrange(a + 1, b)
            parts += [(a, middle), (middle, b)]
        if b - a > 1 and (a, b) != (0, n - 1):
            found.append((a, b))
    return n, tuple(sorted(found))


def parts_in_order(a, b):
    """All cuttings of the stretch from a to b in the order of point 32, each as a list of stretches."""
    if b == a + 1:
        return [[]]
    return [[(a, c), (c, b)] + low + high for c in range(a + 1, b) for low in parts_in_order(a, c)
            for high in parts_in_order(c, b)]


def cuttings_in_order(n):
    lines = set(lines_of(n))
    return [(n, tuple(sorted(p for p in parts if p in lines))) for parts in parts_in_order(0, n - 1)]


def image_of(cut, by, over):
    """The cutting mirrored, if it is to be, and then spun by a number, as point 33 says."""
    n = cut[0]
    straight = [[(n - c) % n if over else c for c in line] for line in cut[1]]
    return n, tuple(sorted(tuple(sorted((c + by) % n for c in line)) for line in straight))
