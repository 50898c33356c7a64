import unittest
from itertools import product
from random import Random

from friezeyard.errors import FloorError, NotAlike, TooMany
from friezeyard.ways import distances, way_to
from tests.helper import (all_cuttings, distances_by_steps, drawn_cutting, fan_lines, some_cuttings, turn_over,
                          walk_over, zigzag_lines)

HEXAGON = (6, ((0, 2), (0, 4), (2, 4)))


def room_parts(n, lines):
    """The rooms of the lines, each found by cutting the floor, and then its parts, along one line after the other."""
    parts = [tuple(range(n))]
    for a, b in lines:
        whole = [part for part in parts if a in part and b in part][0]
        parts.remove(whole)
        parts += [tuple(c for c in whole if a <= c <= b), tuple(c for c in whole if c <= a or c >= b)]
    return parts


def inner_lines(room, lines, both):
    return [line for line in lines if set(line) <= set(room) and line not in both]


def most_turnings(room, one, other):
    """The bound of point 31 in one room."""
    both = set(one[1]) & set(other[1])
    inner = inner_lines(room, one[1], both) + inner_lines(room, other[1], both)
    return 2 * (len(room) - 3) - max(len([line for line in inner if corner in line]) for corner in room)


def walked_on(cut, many, draw):
    """A cutting a few turnings farther, so that most lines are shared."""
    for k in range(many):
        cut = turn_over(cut, draw.choice(cut[1]))[0]
    return cut


class DistancesTest(unittest.TestCase):
    def test_three_and_four_corners(self):
        self.assertEqual(distances((3, ())), [((3, ()), 0)])
        self.assertEqual(distances((4, ((0, 2),))), [((4, ((0, 2),)), 0), ((4, ((1, 3),)), 1)])
        self.assertEqual(distances((4, ((1, 3),))), [((4, ((0, 2),)), 1), ((4, ((1, 3),)), 0)])

    def test_five_corners(self):
        self.assertEqual([number for cut, number in distances((5, ((0, 2), (0, 3))))], [0, 1, 1, 2, 2])

    def test_floors_to_seven_corners_step_by_step(self):
        for n in range(3, 8):
            cuttings = sorted(all_cuttings(n))
            for cut in cuttings:
                told = distances(cut)
                self.assertEqual([other for other, number in told], cuttings)
                self.assertEqual(dict(told), distances_by_steps(cut))

    def test_eight_corners(self):
        cuttings = sorted(all_cuttings(8))
        for cut in some_cuttings(8) + cuttings[::20]:
            told = distances(cut)
            self.assertEqual([other for other, number in told], cuttings)
            self.assertEqual(dict(told), distances_by_steps(cut))

    def test_above_eight_corners_are_too_many(self):
        for n in (9, 10, 60):
            for cut in some_cuttings(n):
                self.assertRaises(TooMany, distances, cut)
        self.assertRaises(FloorError, distances, some_cuttings(9)[0])

    def test_what_is_told_belongs_to_the_asker(self):
        told, again = distances(HEXAGON), distances(HEXAGON)
        self.assertIs(type(told), list)
        self.assertTrue(all(type(each) is tuple and len(each) == 2 for each in told))
        told.clear()
        self.assertEqual(len(again), 14)
        self.assertEqual(distances(HEXAGON), again)


class ShortWayTest(unittest.TestCase):
    def check(self, one, other, number):
        way = way_to(one, other)
        cuts, came = walk_over(one, way)
        self.assertEqual(cuts[-1], other, (one, other))
        self.assertEqual(len(way), number, (one, other))
        self.assertFalse(set(way) & set(one[1]) & set(other[1]), (one, other))

    def test_a_few(self):
        self.assertEqual(way_to((3, ()), (3, ())), [])
        self.assertEqual(way_to((4, ((0, 2),)), (4, ((1, 3),))), [(0, 2)])
        self.assertEqual(way_to((4, ((0, 2),)), (4, ((0, 2),))), [])
        self.assertEqual(way_to(HEXAGON, (6, ((0, 2), (2, 4), (2, 5)))), [(0, 4)])

    def test_all_ways_on_floors_to_six_corners(self):
        for n in range(3, 7):
            for one in all_cuttings(n):
                for other, number in distances_by_steps(one).items():
                    self.check(one, other, number)

    def test_many_ways_on_seven_corners(self):
        for one in all_cuttings(7)[::3]:
            for other, number in distances_by_steps(one).items():
                self.check(one, other, number)

    def test_many_ways_on_eight_corners(self):
        draw = Random(31)
        for one in some_cuttings(8) + draw.sample(all_cuttings(8), 8):
            found = distances_by_steps(one)
            for other in draw.sample(sorted(found), 25):
                self.check(one, other, found[other])


class LongWayTest(unittest.TestCase):
    def check(self, one, other):
        way = way_to(one, other)
        cuts, came = walk_over(one, way)
        self.assertEqual(cuts[-1], other, (one, other))
        both = [line for line in one[1] if line in other[1]]
        self.assertFalse(set(way) & set(both), (one, other))
        parts = room_parts(one[0], both)
        for room in parts:
            inside = [line for line in way if set(line) <= set(room)]
            self.assertLessEqual(len(inside), most_turnings(room, one, other), (one, other, room))
        self.assertEqual(len(way), sum(len([line for line in way if set(line) <= set(room)]) for room in parts))
        return len(parts)

    def test_some_cuttings_of_floors_from_nine_corners(self):
        for n in list(range(9, 21)) + [40, 59, 60]:
            for one, other in product(some_cuttings(n), repeat=2):
                self.check(one, other)

    def test_drawn_cuttings(self):
        draw = Random(9)
        for n in list(range(9, 25)) + [33, 60]:
            for k in range(6):
                self.check(drawn_cutting(n, draw), drawn_cutting(n, draw))

    def test_cuttings_that_share_lines(self):
        draw, shared = Random(10), 0
        for n in list(range(9, 25)) + [45, 60]:
            for one in some_cuttings(n):
                shared += self.check(one, walked_on(one, draw.randrange(1, n), draw)) > 1
        self.assertGreater(shared, 50)

    def test_great_rooms_beside_small_ones(self):
        for n, a, b in ((20, 0, 10), (30, 3, 20), (60, 5, 40), (60, 0, 7)):
            part, rest = list(range(a, b + 1)), [c for c in range(n) if c <= a or c >= b]
            for first, second in product((fan_lines, lambda size, corner: zigzag_lines(size)), repeat=2):
                one = [(part[x], part[y]) for x, y in first(len(part), 0)]
                one += [(rest[x], rest[y]) for x, y in second(len(rest), 1)]
                other = [(part[x], part[y]) for x, y in second(len(part), 2)]
                other += [(rest[x], rest[y]) for x, y in first(len(rest), 3)]
                self.check((n, tuple(sorted(one + [(a, b)]))), (n, tuple(sorted(other + [(a, b)]))))

    def test_cuttings_that_share_no_line(self):
        for n in (9, 10, 20, 60):
            one, other = (n, fan_lines(n, 0)), (n, fan_lines(n, 1))
            self.assertEqual(self.check(one, other), 1)
            self.assertEqual(self.check(other, one), 1)

    def test_alike_cuttings(self):
        for n in (9, 12, 60):
            for cut in some_cuttings(n):
                self.assertEqual(way_to(cut, cut), [])

    def test_one_turning(self):
        for n in (9, 12, 60):
            for cut in some_cuttings(n):
                for line in cut[1]:
                    self.assertEqual(way_to(cut, turn_over(cut, line)[0]), [line])


class WayTest(unittest.TestCase):
    def test_unlike_floors(self):
        cuts = [(3, ()), (4, ((0, 2),)), HEXAGON, some_cuttings(9)[0], some_cuttings(59)[0], some_cuttings(60)[0]]
        for one, other in product(cuts, repeat=2):
            if one != other:
                self.assertRaises(NotAlike, way_to, one, other)
        self.assertRaises(FloorError, way_to, HEXAGON, (3, ()))

    def test_what_is_told_belongs_to_the_asker(self):
        other = (6, ((1, 3), (1, 5), (3, 5)))
        told, again = way_to(HEXAGON, other), way_to(HEXAGON, other)
        self.assertIs(type(told), list)
        self.assertTrue(all(type(line) is tuple for line in told))
        told.clear()
        self.assertEqual(walk_over(HEXAGON, again)[0][-1], other)
        self.assertEqual(way_to(HEXAGON, other), again)
        way_to(HEXAGON, HEXAGON).append("more")
        self.assertEqual(way_to(HEXAGON, HEXAGON), [])


if __name__ == "__main__":
    unittest.main()
