import unittest

from friezeyard.pairs import cross, is_line, is_side, is_whole, pair
from tests.helper import SIXTY, all_pairs, do_cross, lines_of, sides_of


class IsWholeTest(unittest.TestCase):
    def test_ints_are_whole(self):
        for thing in (0, 1, -1, 2, 59, 60, 61, SIXTY, -SIXTY):
            self.assertIs(is_whole(thing), True, thing)

    def test_true_and_false_are_none(self):
        self.assertIs(is_whole(True), False)
        self.assertIs(is_whole(False), False)

    def test_anything_else_is_none(self):
        for thing in (None, 0.0, 3.0, 1j, "", "3", b"3", (), (3,), [], [3], {}, {3: 3}, set(), object(), int, is_whole):
            self.assertIs(is_whole(thing), False, thing)


class PairTest(unittest.TestCase):
    def test_the_lesser_comes_first(self):
        for a, b in ((0, 1), (0, 59), (2, 0), (-1, 1), (-1, -2), (0, -1), (SIXTY, -SIXTY), (SIXTY - 1, SIXTY)):
            told = pair(a, b)
            self.assertEqual(told, (min(a, b), max(a, b)))
            self.assertIs(type(told), tuple)
            self.assertEqual(pair(b, a), told)


class SidesAndLinesTest(unittest.TestCase):
    def test_three_corners_have_three_sides_and_no_line(self):
        for p in ((0, 1), (1, 2), (0, 2)):
            self.assertIs(is_side(3, p), True, p)
            self.assertIs(is_line(3, p), False, p)

    def test_four_corners(self):
        for p in ((0, 1), (1, 2), (2, 3), (0, 3)):
            self.assertIs(is_side(4, p), True, p)
            self.assertIs(is_line(4, p), False, p)
        for p in ((0, 2), (1, 3)):
            self.assertIs(is_side(4, p), False, p)
            self.assertIs(is_line(4, p), True, p)

    def test_all_pairs_of_every_floor(self):
        for n in range(3, 61):
            sides = sides_of(n)
            for p in all_pairs(n):
                self.assertIs(is_side(n, p), p in sides, (n, p))
                self.assertIs(is_line(n, p), p not in sides, (n, p))

    def test_sixty_corners_counted(self):
        self.assertEqual(len([p for p in all_pairs(60) if is_side(60, p)]), 60)
        self.assertEqual(len([p for p in all_pairs(60) if is_line(60, p)]), 60 * 57 // 2)

    def test_first_and_last_corner_are_neighbours(self):
        for n in (3, 4, 5, 59, 60):
            self.assertIs(is_side(n, (0, n - 1)), True, n)
            self.assertIs(is_line(n, (0, n - 1)), False, n)
            self.assertIs(is_side(n + 1, (0, n - 1)), False, n)
            self.assertIs(is_line(n + 1, (0, n - 1)), True, n)

    def test_pairs_beyond_the_floor_are_neither(self):
        for n in (3, 4, 6, 60):
            beyond = [(-1, 0), (-1, n - 1), (-1, 1), (-2, -1), (-3, -1), (-1, n), (n - 1, n), (n, n + 1), (n, n + 2),
                      (0, n), (1, n), (n - 2, n), (0, SIXTY), (SIXTY - 1, SIXTY), (-SIXTY, 0), (-SIXTY, n - 1),
                      (-SIXTY, SIXTY), (-1, n - 2), (1 - n, 0)]
            for p in beyond:
                self.assertIs(is_side(n, p), False, (n, p))
                self.assertIs(is_line(n, p), False, (n, p))


class CrossTest(unittest.TestCase):
    def test_a_few(self):
        self.assertIs(cross((0, 2), (1, 3)), True)
        self.assertIs(cross((1, 3), (0, 2)), True)
        self.assertIs(cross((0, 3), (1, 2)), False)
        self.assertIs(cross((1, 2), (0, 3)), False)
        self.assertIs(cross((0, 1), (2, 3)), False)
        self.assertIs(cross((2, 3), (0, 1)), False)

    def test_a_common_corner_never_crosses(self):
        for p, other in (((0, 2), (0, 2)), ((0, 2), (0, 3)), ((0, 2), (2, 4)), ((2, 4), (0, 2)), ((1, 4), (2, 4))):
            self.assertIs(cross(p, other), False, (p, other))
            self.assertIs(cross(other, p), False, (p, other))

    def test_all_pairs_of_small_floors(self):
        for p in all_pairs(8):
            for other in all_pairs(8):
                self.assertIs(cross(p, other), do_cross(p, other), (p, other))

    def test_sides_cross_no_pair_of_their_floor(self):
        for n in (3, 4, 9):
            for p in sides_of(n):
                for other in sides_of(n) + lines_of(n):
                    self.assertIs(cross(p, other), False, (n, p, other))

    def test_pairs_need_no_floor(self):
        self.assertIs(cross((-SIXTY, 0), (-1, SIXTY)), True)
        self.assertIs(cross((-1, SIXTY), (-SIXTY, 0)), True)
        self.assertIs(cross((-5, -3), (-4, -2)), True)
        self.assertIs(cross((-SIXTY, SIXTY), (SIXTY - 2, SIXTY - 1)), False)
        self.assertIs(cross((SIXTY - 3, SIXTY - 1), (SIXTY - 2, SIXTY)), True)
        self.assertIs(cross((-SIXTY, SIXTY), (0, SIXTY)), False)


if __name__ == "__main__":
    unittest.main()
