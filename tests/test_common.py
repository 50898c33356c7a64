import unittest

from friezeyard.common import (check_corner, check_floor, check_line, check_pair, check_row, has_pair, is_figures,
                               is_floor, is_two, opposite, two_read, two_shown)
from friezeyard.errors import NoCorner, NoFloor, NoLine, NoRow
from tests.helper import NO_FLOORS, NO_ROWS, SIXTY, no_corners

CUT = (5, ((1, 3), (1, 4)))
LINES = ((1, 3), (1, 4))
SIDES = ((0, 1), (1, 2), (2, 3), (3, 4), (0, 4))
NEITHER = ((0, 2), (0, 3), (2, 4), (1, 0), (3, 1), (4, 5), (-1, 0), (True, 3), (1, 3, 4), [1, 3], None, "13")


class CommonTest(unittest.TestCase):
    def test_two_whole_numbers(self):
        for thing in ((0, 1), (2, 0), (3, 3), (-1, SIXTY)):
            self.assertIs(is_two(thing), True, thing)

    def test_anything_else(self):
        for thing in (None, 1, "01", [0, 1], {0: 1, 1: 2}, (), (0,), (0, 1, 2)):
            self.assertIs(is_two(thing), False, thing)
        for thing in ((0, True), (False, 1), (0, "1"), (0, 1.0), (None, 1)):
            self.assertIs(is_two(thing), False, thing)

    def test_a_cutting_has_its_sides_and_its_lines(self):
        for p in SIDES + LINES:
            self.assertIs(has_pair(CUT, p), True, p)
            self.assertIsNone(check_pair(CUT, p))

    def test_a_cutting_has_nothing_else(self):
        for p in NEITHER:
            self.assertIs(has_pair(CUT, p), False, p)
            self.assertRaises(NoLine, check_pair, CUT, p)

    def test_sides_are_no_lines(self):
        for p in LINES:
            self.assertIsNone(check_line(CUT, p))
        for p in SIDES + NEITHER:
            self.assertRaises(NoLine, check_line, CUT, p)

    def test_floors_have_three_to_sixty_corners(self):
        self.assertEqual([n for n in range(-5, 100) if is_floor(n)], list(range(3, 61)))
        for n in range(3, 61):
            self.assertIsNone(check_floor(n))
        for thing in NO_FLOORS:
            self.assertIs(is_floor(thing), False, thing)
            self.assertRaises(NoFloor, check_floor, thing)

    def test_rows_hold_three_to_sixty_whole_numbers(self):
        for row in ([1, 1, 1], [0, -5, SIXTY], [2] * 60):
            self.assertIsNone(check_row(row))
        for thing in NO_ROWS:
            self.assertRaises(NoRow, check_row, thing)

    def test_corners(self):
        for corner in range(5):
            self.assertIsNone(check_corner(5, corner))
        for thing in no_corners(5):
            self.assertRaises(NoCorner, check_corner, 5, thing)

    def test_opposite_to_a_corner_of_a_triangle(self):
        self.assertEqual([opposite((1, 4, 6), corner) for corner in (1, 4, 6)], [(4, 6), (1, 6), (1, 4)])

    def test_figures(self):
        for word in ("0", "7", "10", "59", "99"):
            self.assertIs(is_figures(word, 2), True, word)
        for word in ("", "00", "07", "100", "-1", "+1", "1_", " 1", "1 ", "a", "1a", "1.", "\n1", "-"):
            self.assertIs(is_figures(word, 2), False, word)
        self.assertIs(is_figures(str(SIXTY), 60), True)
        self.assertIs(is_figures(str(SIXTY + 1), 60), False)

    def test_words_of_two_numbers(self):
        for word, two in (("0-2", (0, 2)), ("2-0", (2, 0)), ("5-5", (5, 5)), ("10-99", (10, 99))):
            self.assertEqual(two_read(word), two)
            self.assertEqual(two_shown(two), word)
        for word in ("", "-", "2", "2-", "-2", "2--3", "2-3-4", "02-3", "2-03", "100-2", "2-100", "a-2", "2-b", "2 -3"):
            self.assertIsNone(two_read(word), word)


if __name__ == "__main__":
    unittest.main()
