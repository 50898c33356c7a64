import copy
import unittest
from itertools import permutations

from friezeyard.cuttings import cutting
from friezeyard.errors import Crossed, FloorError, NoFloor, NoLine, NotFull
from tests.helper import (NO_WHOLE_NUMBERS, SIXTY, all_cuttings, do_cross, fan_lines, lines_of, sides_of,
                          some_cuttings, uncrossed_sets, zigzag_lines)

HEXAGON = (6, ((0, 2), (0, 4), (2, 4)))
NO_LINES = (None, True, 1, "", "02", "0-2", [0, 2], [], {}, {0: 2}, {0, 2}, 0.2, object(), (), (0,), (0, 2, 4),
            (0, 2, 2), (0, True), (True, 3), (False, 2), (True, True), (0, None), (0, "2"), ("0", "2"), (0, 2.0),
            ((0, 2), (0, 4)), ((0, 2),), (0, (2,)), (2, 2), (0, 0), (5, 5), (6, 6), (-1, -1), (0, 1), (1, 0), (4, 5),
            (5, 4), (0, 5), (5, 0), (-1, 1), (1, -1), (-1, 3), (0, 6), (6, 0), (2, 6), (6, 8), (8, 6), (-4, -2),
            (0, SIXTY), (-SIXTY, 2))


def refusal(n, lines):
    try:
        return cutting(n, lines)
    except FloorError as taken:
        return taken


class CuttingTest(unittest.TestCase):
    def test_three_and_four_corners(self):
        self.assertEqual(cutting(3, []), (3, ()))
        self.assertEqual(cutting(4, [(0, 2)]), (4, ((0, 2),)))
        self.assertEqual(cutting(4, [(3, 1)]), (4, ((1, 3),)))

    def test_any_order_and_either_corner_first(self):
        for lines in permutations(HEXAGON[1]):
            for turned in range(8):
                given = [(b, a) if turned >> k & 1 else (a, b) for k, (a, b) in enumerate(lines)]
                self.assertEqual(cutting(6, given), HEXAGON, given)

    def test_every_cutting_of_small_floors(self):
        for n in range(3, 9):
            for cut in all_cuttings(n):
                self.assertEqual(cutting(n, list(cut[1])), cut)
                self.assertEqual(cutting(n, [(b, a) for a, b in reversed(cut[1])]), cut)

    def test_sixty_corners(self):
        for cut in some_cuttings(60) + some_cuttings(59):
            self.assertEqual(cutting(cut[0], [(b, a) for a, b in cut[1][::-1]]), cut)

    def test_told_are_tuples(self):
        for cut in (cutting(3, []), cutting(4, [(0, 2)]), cutting(5, [(4, 2), (2, 0)])):
            self.assertIs(type(cut), tuple)
            self.assertIs(type(cut[1]), tuple)
            self.assertTrue(all(type(line) is tuple for line in cut[1]))

    def test_lines_are_sorted_by_the_first_corner_then_by_the_second(self):
        given = [(10, 8), (0, 10), (8, 2), (0, 8), (6, 8), (2, 6), (0, 2), (3, 6), (5, 3)]
        self.assertEqual(cutting(12, given)[1],
                         ((0, 2), (0, 8), (0, 10), (2, 6), (2, 8), (3, 5), (3, 6), (6, 8), (8, 10)))

    def test_what_is_handed_in_stays(self):
        for given in ([(4, 2), (0, 4), (2, 0)], [(4, 2)], [(4, 2), (1, 3)], [(4, 2), (2, 4)], [(4, 2), None, [1, 3]]):
            kept = copy.deepcopy(given)
            refusal(6, given)
            self.assertEqual(given, kept)

    def test_what_is_told_stays_when_the_list_changes(self):
        given = [(4, 2), (0, 4), (2, 0)]
        cut = cutting(6, given)
        given.clear()
        self.assertEqual(cut, HEXAGON)
        self.assertEqual(cutting(6, [(2, 4), (4, 0), (0, 2)]), HEXAGON)


class NoFloorTest(unittest.TestCase):
    def test_numbers_beyond(self):
        for n in (2, 1, 0, -1, -3, 61, 62, 100, SIXTY, -SIXTY):
            self.assertRaises(NoFloor, cutting, n, [])

    def test_the_least_and_the_greatest_floor(self):
        self.assertEqual(cutting(3, []), (3, ()))
        self.assertEqual(cutting(60, list(fan_lines(60, 7))), (60, fan_lines(60, 7)))

    def test_anything_else(self):
        for n in NO_WHOLE_NUMBERS + ("5", (4,), [4], 4.0):
            self.assertRaises(NoFloor, cutting, n, [])

    def test_it_comes_ahead_of_all_others(self):
        for n in (2, 61, True, None, "6", (6,)):
            for lines in ([None], [(0, 1)], [(0, 2), (1, 3)], [(0, 2), (0, 2)], [(0, 2)]):
                self.assertRaises(NoFloor, cutting, n, lines)


class NoLineTest(unittest.TestCase):
    def test_what_is_no_line_at_every_place(self):
        for thing in NO_LINES:
            for k in range(4):
                given = [(0, 2), (4, 2), (0, 4)]
                given.insert(k, thing)
                self.assertRaises(NoLine, cutting, 6, given)
            self.assertRaises(NoLine, cutting, 6, [thing])

    def test_three_corners_have_no_line(self):
        for p in ((0, 1), (1, 2), (0, 2), (2, 0), (0, 3), (1, 3)):
            self.assertRaises(NoLine, cutting, 3, [p])

    def test_sides_and_what_lies_beyond_at_sixty_corners(self):
        lines = list(fan_lines(60, 0))
        for p in sides_of(60) + [(0, 60), (58, 60), (60, 61), (-1, 30), (60, 0)]:
            self.assertRaises(NoLine, cutting, 60, lines[:-1] + [p])

    def test_a_bad_thing_behind_lines_that_cross(self):
        for thing in NO_LINES:
            self.assertRaises(NoLine, cutting, 6, [(0, 2), (1, 3), thing])
            self.assertRaises(NoLine, cutting, 6, [(0, 2), (2, 0), thing])

    def test_a_bad_thing_in_a_list_that_is_too_short(self):
        self.assertRaises(NoLine, cutting, 60, [(0, 2), (0, 1)])


class CrossedTest(unittest.TestCase):
    def crossed(self, n, lines, one, other):
        taken = refusal(n, lines)
        self.assertIsInstance(taken, Crossed, (n, lines))
        self.assertEqual((taken.one, taken.other), (one, other), (n, lines))
        self.assertIs(type(taken.one), tuple)
        self.assertIs(type(taken.other), tuple)

    def test_two_that_cross(self):
        self.crossed(4, [(0, 2), (1, 3)], (0, 2), (1, 3))
        self.crossed(4, [(1, 3), (0, 2)], (1, 3), (0, 2))

    def test_told_as_pairs(self):
        self.crossed(4, [(2, 0), (3, 1)], (0, 2), (1, 3))

    def test_the_same_line_twice(self):
        self.crossed(6, [(0, 2), (0, 4), (0, 2)], (0, 2), (0, 2))
        self.crossed(6, [(0, 2), (0, 4), (2, 0)], (0, 2), (0, 2))
        self.crossed(6, [(4, 0), (0, 4)], (0, 4), (0, 4))

    def test_other_is_the_first_that_crosses_one_ahead(self):
        self.crossed(8, [(0, 4), (4, 6), (1, 3), (2, 5), (3, 7), (1, 3)], (0, 4), (2, 5))

    def test_one_is_the_first_ahead_of_it(self):
        self.crossed(8, [(4, 6), (0, 4), (1, 3), (2, 5)], (4, 6), (2, 5))
        self.crossed(8, [(1, 3), (0, 4), (4, 6), (5, 2)], (1, 3), (2, 5))
        self.crossed(8, [(0, 2), (2, 4), (4, 6), (2, 4), (1, 5)], (2, 4), (2, 4))
        self.crossed(8, [(0, 2), (2, 4), (4, 6), (1, 5), (2, 4)], (0, 2), (1, 5))

    def test_lines_that_cross_in_a_list_that_is_too_short(self):
        self.crossed(60, [(0, 30), (1, 31)], (0, 30), (1, 31))
        self.crossed(60, [(0, 30), (30, 0)], (0, 30), (0, 30))

    def test_lines_that_cross_in_a_list_that_is_too_long(self):
        self.crossed(6, [(0, 2), (0, 4), (2, 4), (1, 4)], (0, 2), (1, 4))
        self.crossed(60, lines_of(60)[:300], (0, 2), (1, 3))

    def test_all_lists_of_three_lines_of_six_corners(self):
        for lines in permutations(lines_of(6), 3):
            pairs = [(one, other) for k, other in enumerate(lines) for one in lines[:k] if do_cross(one, other)]
            if pairs:
                self.crossed(6, [(b, a) for a, b in lines], *pairs[0])
            else:
                self.assertEqual(cutting(6, list(lines)), (6, tuple(sorted(lines))))


class NotFullTest(unittest.TestCase):
    def not_full(self, n, lines):
        taken = refusal(n, list(lines))
        self.assertIsInstance(taken, NotFull, (n, lines))
        self.assertIs(type(taken.line), tuple)
        self.assertIn(taken.line, lines_of(n), (n, lines))
        given = [tuple(sorted(line)) for line in lines]
        self.assertNotIn(taken.line, given, (n, lines))
        self.assertFalse([line for line in given if do_cross(line, taken.line)], (n, lines))

    def test_no_line_at_all(self):
        for n in range(4, 61):
            self.not_full(n, [])

    def test_every_set_that_is_too_small(self):
        for n in range(4, 9):
            for lines in uncrossed_sets(n):
                if len(lines) < n - 3:
                    self.not_full(n, lines)
                    self.not_full(n, [(b, a) for a, b in lines])

    def test_one_less_than_a_cutting_of_sixty_corners(self):
        for cut in some_cuttings(60):
            for k in range(57):
                self.not_full(60, cut[1][:k] + cut[1][k + 1:])

    def test_several_less_than_a_cutting_of_sixty_corners(self):
        self.not_full(60, zigzag_lines(60)[::2])
        self.not_full(60, fan_lines(60, 59)[::-3])


if __name__ == "__main__":
    unittest.main()
