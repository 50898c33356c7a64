import unittest
from itertools import permutations
from random import Random

from friezeyard.errors import FloorError, NoLine, TooMany
from friezeyard.fractions import fraction
from friezeyard.yards import Yard
from tests.helper import (all_cuttings, all_pairs, drawn_cutting, no_pairs_of, rooms_by_the_words, sides_of,
                          some_cuttings, turn_over)

HEXAGON = (6, ((0, 2), (0, 4), (2, 4)))


def pairs_of(cut):
    return sorted(sides_of(cut[0]) + list(cut[1]))


def all_told(yard):
    """All that a yard tells."""
    return yard.first, yard.now, [yard.told(p) for p in pairs_of(yard.now)]


class YardTest(unittest.TestCase):
    def check(self, yard, first, now):
        self.assertEqual((yard.first, yard.now), (first, now))
        for p in pairs_of(now):
            self.assertEqual(yard.told(p), fraction(first, p), (first, now, p))

    def test_at_first_the_sums_are_the_letters(self):
        for cut in [cut for n in range(3, 7) for cut in all_cuttings(n)] + some_cuttings(12):
            yard = Yard(cut)
            self.assertEqual((yard.first, yard.now), (cut, cut))
            for k, p in enumerate(pairs_of(cut)):
                alone = (0,) * k + (1,) + (0,) * (2 * cut[0] - 4 - k)
                self.assertEqual(yard.told(p), [(alone, 1)])

    def test_four_corners(self):
        yard = Yard((4, ((0, 2),)))
        self.assertEqual(yard.turn((0, 2)), (1, 3))
        self.assertEqual((yard.first, yard.now), ((4, ((0, 2),)), (4, ((1, 3),))))
        self.assertEqual(yard.told((1, 3)), [((0, -1, 1, 1, 0), 1), ((1, -1, 0, 0, 1), 1)])
        self.assertEqual(yard.told((0, 3)), [((0, 0, 1, 0, 0), 1)])
        self.assertEqual(yard.turn((1, 3)), (0, 2))
        self.assertEqual(yard.told((0, 2)), [((0, 1, 0, 0, 0), 1)])

    def test_two_turnings_of_five_corners(self):
        yard = Yard((5, ((0, 2), (0, 3))))
        self.assertEqual([yard.turn((0, 2)), yard.turn((0, 3))], [(1, 3), (1, 4)])
        self.check(yard, (5, ((0, 2), (0, 3))), (5, ((1, 3), (1, 4))))
        self.assertEqual(len(yard.told((1, 4))), 3)

    def test_five_turnings_round_a_room(self):
        for cut in [HEXAGON] + some_cuttings(7) + some_cuttings(12):
            found = rooms_by_the_words(*cut)
            for one, other in permutations(cut[1], 2):
                if not [corners for corners in found if set(one + other) <= set(corners)]:
                    continue
                yard = Yard(cut)
                third, fourth = yard.turn(one), yard.turn(other)
                fifth = yard.turn(third)
                yard.turn(fourth)
                yard.turn(fifth)
                self.check(yard, cut, cut)

    def test_long_walks_on_small_floors(self):
        draw = Random(28)
        for first in [cut for n in (4, 5, 6) for cut in all_cuttings(n)] + some_cuttings(7) + some_cuttings(8):
            yard, now = Yard(first), first
            for k in range(40):
                line = draw.choice(now[1])
                now, new = turn_over(now, line)
                self.assertEqual(yard.turn(line), new)
                self.check(yard, first, now)

    def test_other_ways_to_the_same_cutting(self):
        told = {}
        for seed in range(6):
            draw, yard = Random(seed), Yard(some_cuttings(6)[3])
            for k in range(60):
                yard.turn(draw.choice(yard.now[1]))
                first, now, sums = all_told(yard)
                self.assertEqual(told.setdefault(now, sums), sums)
        self.assertEqual(sorted(told), sorted(all_cuttings(6)))

    def test_long_walks_on_twelve_corners(self):
        draw = Random(12)
        for first in some_cuttings(12) + [drawn_cutting(12, draw)]:
            yard, now = Yard(first), first
            for k in range(80):
                line = draw.choice(now[1])
                now, new = turn_over(now, line)
                self.assertEqual(yard.turn(line), new)
                self.assertEqual(yard.told(new), fraction(first, new))
            self.check(yard, first, now)

    def test_the_greatest_sum_of_twelve_corners(self):
        first = some_cuttings(12)[3]
        farthest = max(all_pairs(12), key=lambda p: len(fraction(first, p)))
        yard = Yard(first)
        while farthest not in yard.now[1]:
            facing = [room for room in rooms_by_the_words(*yard.now) if farthest[0] in room]
            opposite = [tuple(c for c in room if c != farthest[0]) for room in facing]
            yard.turn([p for p in opposite if p in yard.now[1]][0])
        self.assertEqual(len(yard.told(farthest)), 89)
        self.check(yard, first, yard.now)


class RefusedTest(unittest.TestCase):
    def test_above_twelve_corners_are_too_many(self):
        for n in (13, 14, 60):
            for cut in some_cuttings(n):
                self.assertRaises(TooMany, Yard, cut)
        self.assertRaises(FloorError, Yard, some_cuttings(13)[0])

    def check_refusals(self, yard):
        ahead = all_told(yard)
        for p in no_pairs_of(yard.now[0], pairs_of(yard.now)):
            self.assertRaises(NoLine, yard.told, p)
            self.assertRaises(NoLine, yard.turn, p)
        for p in sides_of(yard.now[0]):
            self.assertRaises(NoLine, yard.turn, p)
        self.assertEqual(all_told(yard), ahead)

    def test_what_is_no_side_or_line_of_now(self):
        for cut in [(3, ()), (4, ((0, 2),)), HEXAGON] + some_cuttings(12):
            yard = Yard(cut)
            self.check_refusals(yard)
            for line in cut[1][:4]:
                yard.turn(line)
                self.assertRaises(NoLine, yard.told, line)
                self.assertRaises(NoLine, yard.turn, line)
                self.check_refusals(yard)

    def test_turnings_go_on_behind_a_refusal(self):
        yard = Yard(HEXAGON)
        yard.turn((0, 2))
        self.assertRaises(NoLine, yard.turn, (0, 2))
        self.assertRaises(NoLine, yard.told, (4, 1))
        self.assertEqual(yard.turn((0, 4)), (1, 5))
        self.assertEqual(yard.told((1, 5)), fraction(HEXAGON, (1, 5)))


class OwnTest(unittest.TestCase):
    def test_a_sum_told_and_spoiled_changes_nothing(self):
        yard = Yard(HEXAGON)
        for p in pairs_of(HEXAGON):
            yard.told(p).clear()
        kept = yard.told((2, 4))
        self.assertIs(type(kept), list)
        yard.turn((2, 4))
        self.assertEqual(kept, fraction(HEXAGON, (2, 4)))
        for p in pairs_of(yard.now):
            yard.told(p).append("more")
            self.assertEqual(yard.told(p), fraction(HEXAGON, p))
        yard.turn((0, 2))
        self.assertEqual(yard.told((1, 3)), fraction(HEXAGON, (1, 3)))

    def test_two_yards_of_one_cutting(self):
        one, other = Yard(HEXAGON), Yard(HEXAGON)
        ahead = all_told(other)
        one.turn((0, 4))
        one.turn((2, 4))
        self.assertEqual(all_told(other), ahead)


if __name__ == "__main__":
    unittest.main()
