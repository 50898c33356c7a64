import unittest
from math import comb
from random import Random

from friezeyard.errors import FloorError, NoFloor, NoPlace
from friezeyard.places import at_place, count, place
from tests.helper import (NO_FLOORS, NO_WHOLE_NUMBERS, SIXTY, all_cuttings, cuttings_in_order, drawn_cutting, fan_lines,
                          rooms_by_the_words, some_cuttings)

HEXAGON = (6, ((0, 2), (0, 4), (2, 4)))


def order_of(cut):
    """What two cuttings of a floor are compared by in point 32: c, then the lower part, then the upper one."""
    joined = set(cut[1]) | {(c, c + 1) for c in range(cut[0] - 1)}

    def within(a, b):
        if b == a + 1:
            return ()
        c = [c for c in range(a + 1, b) if (a, c) in joined and (c, b) in joined][0]
        return (c, within(a, c), within(c, b))
    return within(0, cut[0] - 1)


class CountTest(unittest.TestCase):
    def test_a_few(self):
        self.assertEqual([count(n) for n in range(3, 11)], [1, 2, 5, 14, 42, 132, 429, 1430])

    def test_every_floor(self):
        for n in range(3, 61):
            self.assertEqual(count(n), comb(2 * n - 4, n - 2) // (n - 1))
        self.assertEqual(count(60), 104088460289122304033498318812080)

    def test_as_many_as_there_are(self):
        for n in range(3, 9):
            self.assertEqual(count(n), len(all_cuttings(n)))

    def test_what_is_no_floor(self):
        for n in NO_FLOORS:
            self.assertRaises(NoFloor, count, n)
        self.assertRaises(FloorError, count, 61)


class PlaceTest(unittest.TestCase):
    def test_a_few(self):
        self.assertEqual(place((3, ())), 0)
        self.assertEqual([place((4, ((1, 3),))), place((4, ((0, 2),)))], [0, 1])
        self.assertEqual([at_place(5, k) for k in range(5)],
                         [(5, ((1, 4), (2, 4))), (5, ((1, 3), (1, 4))), (5, ((0, 2), (2, 4))), (5, ((0, 3), (1, 3))),
                          (5, ((0, 2), (0, 3)))])

    def test_all_cuttings_to_eight_corners_in_order(self):
        for n in range(3, 9):
            wanted = cuttings_in_order(n)
            self.assertEqual(sorted(wanted), sorted(all_cuttings(n)))
            self.assertEqual([at_place(n, k) for k in range(count(n))], wanted)
            self.assertEqual([place(cut) for cut in wanted], list(range(count(n))))

    def test_the_first_and_the_last_of_every_floor(self):
        for n in range(3, 61):
            self.assertEqual(at_place(n, 0), (n, fan_lines(n, n - 1)))
            self.assertEqual(at_place(n, count(n) - 1), (n, fan_lines(n, 0)))
            self.assertEqual(place((n, fan_lines(n, n - 1))), 0)
            self.assertEqual(place((n, fan_lines(n, 0))), count(n) - 1)

    def test_drawn_places_there_and_back(self):
        draw = Random(32)
        for n in (9, 12, 30, 59, 60):
            for k in [1, 2, count(n) // 2, count(n) - 2] + [draw.randrange(count(n)) for times in range(15)]:
                cut = at_place(n, k)
                self.assertEqual(len(rooms_by_the_words(*cut)) if n < 13 else n - 2, n - 2)
                self.assertEqual(len(set(cut[1])), n - 3)
                self.assertEqual(place(cut), k)

    def test_drawn_cuttings_there_and_back(self):
        draw = Random(33)
        for cut in some_cuttings(60) + [drawn_cutting(n, draw) for n in (9, 20, 41, 60, 60, 60)]:
            self.assertEqual(at_place(cut[0], place(cut)), cut)

    def test_the_order_of_great_floors(self):
        draw = Random(34)
        for n in (9, 20, 60):
            cuts = some_cuttings(n) + [drawn_cutting(n, draw) for times in range(15)]
            self.assertEqual(sorted(cuts, key=place), sorted(cuts, key=order_of))
            for k in [draw.randrange(count(n) - 1) for times in range(10)]:
                self.assertLess(order_of(at_place(n, k)), order_of(at_place(n, k + 1)))

    def test_kinds(self):
        for thing in (at_place(6, 3), at_place(6, 3)[1], at_place(6, 3)[1][0]):
            self.assertIs(type(thing), tuple)
        self.assertIs(type(place(HEXAGON)), int)
        self.assertIs(type(place((3, ()))), int)


class RefusedTest(unittest.TestCase):
    def test_what_is_no_place(self):
        for n in (3, 4, 5, 8, 60):
            for k in NO_WHOLE_NUMBERS + (-1, -2, -count(n), count(n), count(n) + 1, SIXTY, -SIXTY, (0,), [0], "0"):
                self.assertRaises(NoPlace, at_place, n, k)
        self.assertRaises(FloorError, at_place, 4, 2)

    def test_true_and_false_are_no_places(self):
        for n in (3, 4, 6, 60):
            self.assertRaises(NoPlace, at_place, n, True)
            self.assertRaises(NoPlace, at_place, n, False)

    def test_what_is_no_floor(self):
        for n in NO_FLOORS:
            self.assertRaises(NoFloor, at_place, n, 0)
        self.assertRaises(FloorError, at_place, 2, 0)

    def test_no_floor_comes_ahead_of_no_place(self):
        for n in NO_FLOORS:
            for k in NO_WHOLE_NUMBERS + (-1, SIXTY):
                self.assertRaises(NoFloor, at_place, n, k)


if __name__ == "__main__":
    unittest.main()
