import copy
import unittest
from itertools import product

from friezeyard.cuttings import cutting
from friezeyard.errors import Fallen, FloorError, NoRow
from friezeyard.numbers import numbers
from friezeyard.trails import cutting_of, trail
from tests.helper import NO_ROWS, all_cuttings, numbers_by_the_words, some_cuttings

THIRTY = 10 ** 30 - 1  # the greatest whole number of thirty figures
HEXAGON = (6, ((0, 2), (0, 4), (2, 4)))


def neighbour(standing, corner, way, n):
    corner = (corner + way) % n
    while corner not in standing:
        corner = (corner + way) % n
    return corner


def trail_by_the_words(row):
    """Point 11, word by word."""
    standing, steps, n = dict(enumerate(row)), [], len(row)
    while True:
        if min(standing.values()) < 1:
            return steps, min(c for c in standing if standing[c] < 1)
        if len(standing) == 3:
            return steps, min((c for c in standing if standing[c] != 1), default=None)
        if 1 not in standing.values():
            return steps, min(standing)
        corner = min(c for c in standing if standing[c] == 1)
        before, behind = neighbour(standing, corner, -1, n), neighbour(standing, corner, 1, n)
        standing[before] -= 1
        standing[behind] -= 1
        standing.pop(corner)
        steps.append((corner, before, behind))


class GoodTest(unittest.TestCase):
    def test_three_and_four_corners(self):
        self.assertEqual(trail([1, 1, 1]), ([], None))
        self.assertEqual(trail([2, 1, 2, 1]), ([(1, 0, 2)], None))
        self.assertEqual(trail([1, 2, 1, 2]), ([(0, 3, 1)], None))

    def test_six_corners(self):
        self.assertEqual(trail([3, 1, 3, 1, 3, 1]), ([(1, 0, 2), (3, 2, 4), (2, 0, 4)], None))
        self.assertEqual(trail([1, 2, 2, 2, 1, 4]), ([(0, 5, 1), (1, 5, 2), (2, 5, 3)], None))

    def test_neighbours_are_the_next_that_stand(self):
        self.assertEqual(trail([4, 1, 2, 2, 2, 1]), ([(1, 0, 2), (2, 0, 3), (3, 0, 4)], None))

    def test_kinds(self):
        told = trail([3, 1, 3, 1, 3, 1])
        self.assertIs(type(told), tuple)
        self.assertIs(type(told[0]), list)
        self.assertTrue(all(type(step) is tuple for step in told[0]))
        self.assertIsNone(told[1])

    def test_every_cutting_of_small_floors(self):
        for n in range(3, 9):
            for cut in all_cuttings(n):
                row = numbers_by_the_words(*cut)
                steps, fell = trail(row)
                self.assertIsNone(fell)
                self.assertEqual(sorted(tuple(sorted(step[1:])) for step in steps), list(cut[1]))
                self.assertEqual((steps, fell), trail_by_the_words(row))

    def test_sixty_corners(self):
        for cut in some_cuttings(60):
            self.assertEqual(trail(numbers(cut)), trail_by_the_words(numbers(cut)))
            self.assertEqual(len(trail(numbers(cut))[0]), 57)
        self.assertEqual(trail([58, 1] + [2] * 57 + [1]), ([(c, 0, c + 1) for c in range(1, 58)], None))


class FallsTest(unittest.TestCase):
    def test_below_one_at_first_at_the_least_such_corner(self):
        self.assertEqual(trail([1, 1, 0]), ([], 2))
        self.assertEqual(trail([5, 0, -1]), ([], 1))
        self.assertEqual(trail([1, 2, -1, 0, 1]), ([], 2))
        self.assertEqual(trail([0] * 60), ([], 0))
        self.assertEqual(trail([1] * 59 + [0]), ([], 59))

    def test_below_one_behind_steps_at_the_least_such_corner(self):
        self.assertEqual(trail([1, 1, 1, 1]), ([(0, 3, 1)], 1))
        self.assertEqual(trail([1, 1, 5, 1]), ([(0, 3, 1)], 1))
        self.assertEqual(trail([1, 2, 5, 1]), ([(0, 3, 1)], 3))
        self.assertEqual(trail([3, 1, 1, 9, 9, 9]), ([(1, 0, 2)], 2))

    def test_below_one_comes_ahead_of_three_that_stand(self):
        self.assertEqual(trail([2, 5, 0]), ([], 2))
        self.assertEqual(trail([7, 1, 2, 1, 1]), ([(1, 0, 2), (2, 0, 3)], 3))

    def test_three_stand_and_not_all_have_one(self):
        self.assertEqual(trail([1, 1, 2]), ([], 2))
        self.assertEqual(trail([1, 2, 3]), ([], 1))
        self.assertEqual(trail([2, 2, 2]), ([], 0))
        self.assertEqual(trail([2, 1, 3, 1]), ([(1, 0, 2)], 2))
        self.assertEqual(trail([3, 1, 3, 2]), ([(1, 0, 2)], 0))

    def test_no_corner_has_one(self):
        self.assertEqual(trail([2, 2, 2, 2]), ([], 0))
        self.assertEqual(trail([2] * 60), ([], 0))
        self.assertEqual(trail([1, 3, 2, 2, 3, 3]), ([(0, 5, 1)], 1))
        self.assertEqual(trail([1, 2, 3, 2, 2, 4]), ([(0, 5, 1), (1, 5, 2)], 2))

    def test_below_one_comes_ahead_of_no_corner_with_one(self):
        self.assertEqual(trail([2, 2, 2, 0]), ([], 3))
        self.assertEqual(trail([2, 3, -4, 0, 2]), ([], 2))

    def test_it_never_falls_at_a_corner_that_stands_no_more(self):
        self.assertEqual(trail([2, 1, 3, 4, 4]), ([(1, 0, 2), (0, 4, 2)], 3))

    def test_numbers_of_thirty_figures(self):
        self.assertEqual(trail([1, THIRTY, 1, THIRTY]), ([(0, 3, 1)], 1))
        self.assertEqual(trail([THIRTY, THIRTY, THIRTY]), ([], 0))
        self.assertEqual(trail([1, 1, -THIRTY]), ([], 2))
        self.assertEqual(trail([THIRTY] * 60), ([], 0))
        self.assertEqual(trail([THIRTY, 1] + [2] * 57 + [1]), ([(c, 0, c + 1) for c in range(1, 58)], 0))
        self.assertEqual(trail([58, 1] + [2] * 57 + [THIRTY]), ([(c, 0, c + 1) for c in range(1, 58)], 59))

    def test_all_rows_of_small_numbers(self):
        for n, greatest in ((3, 5), (4, 5), (5, 4), (6, 4)):
            for row in product(range(-1, greatest + 1), repeat=n):
                self.assertEqual(trail(list(row)), trail_by_the_words(row), row)

    def test_a_row_is_good_just_where_it_is_a_cuttings(self):
        for n in range(3, 8):
            rows = [numbers_by_the_words(*cut) for cut in all_cuttings(n)]
            good = [list(row) for row in product(range(1, n - 1), repeat=n) if trail(list(row))[1] is None]
            self.assertEqual(sorted(rows), good)


class NoRowTest(unittest.TestCase):
    def test_what_is_no_row(self):
        for thing in NO_ROWS:
            self.assertRaises(NoRow, trail, thing)
            self.assertRaises(NoRow, cutting_of, thing)

    def test_two_three_sixty_and_sixty_one(self):
        for asked in (trail, cutting_of):
            self.assertRaises(NoRow, asked, [1, 1])
            self.assertRaises(NoRow, asked, [58, 1] + [2] * 58 + [1])
        self.assertEqual(trail([1, 1, 1]), ([], None))
        self.assertIsNone(trail([58, 1] + [2] * 57 + [1])[1])

    def test_true_in_a_row_that_would_be_good(self):
        for row in ([True, 1, 1], [2, True, 2, 1], [2, 1, 2, True]):
            self.assertRaises(NoRow, trail, row)
            self.assertRaises(NoRow, cutting_of, row)

    def test_no_row_comes_ahead_of_fallen(self):
        for row in ([0, True, 1], [0, 0], [0] * 61, [-1, -1, None], (0, 0, 0)):
            self.assertRaises(NoRow, cutting_of, row)


class CuttingOfTest(unittest.TestCase):
    def test_a_few(self):
        self.assertEqual(cutting_of([1, 1, 1]), (3, ()))
        self.assertEqual(cutting_of([2, 1, 2, 1]), (4, ((0, 2),)))
        self.assertEqual(cutting_of([1, 2, 1, 2]), (4, ((1, 3),)))
        self.assertEqual(cutting_of([3, 1, 3, 1, 3, 1]), HEXAGON)

    def test_the_cutting_of_a_cuttings_numbers_is_the_cutting(self):
        for cut in [cut for n in range(3, 9) for cut in all_cuttings(n)] + some_cuttings(59) + some_cuttings(60):
            told = cutting_of(numbers(cut))
            self.assertEqual(told, cut)
            self.assertEqual(told, cutting(cut[0], list(told[1])))
            self.assertIs(type(told[1]), tuple)

    def test_fallen_tells_where(self):
        for n, greatest in ((3, 4), (4, 4), (5, 3)):
            for row in product(range(-1, greatest + 1), repeat=n):
                fell = trail_by_the_words(row)[1]
                if fell is not None:
                    with self.assertRaises(Fallen) as taken:
                        cutting_of(list(row))
                    self.assertEqual(taken.exception.corner, fell, row)

    def test_fallen_at_the_corner_nought_and_at_the_last(self):
        for row, corner in (([2, 2, 2], 0), ([0, 1, 1], 0), ([1] * 59 + [0], 59), ([2] * 60, 0)):
            with self.assertRaises(Fallen) as taken:
                cutting_of(row)
            self.assertEqual(taken.exception.corner, corner)

    def test_the_refusals_are_floor_errors(self):
        self.assertRaises(FloorError, cutting_of, [2, 2, 2])
        self.assertRaises(FloorError, cutting_of, None)


class BelongingTest(unittest.TestCase):
    def test_the_row_handed_in_stays(self):
        for row in ([3, 1, 3, 1, 3, 1], [1, 1, 1, 1], [2, 1, 3, 1], [1, 1], [1, None, 1]):
            kept = copy.deepcopy(row)
            for asked in (trail, cutting_of):
                try:
                    asked(row)
                except FloorError:
                    pass
                self.assertEqual(row, kept)

    def test_what_is_told_belongs_to_the_asker(self):
        row = [3, 1, 3, 1, 3, 1]
        told, again = trail(row), trail(row)
        told[0].clear()
        row.clear()
        self.assertEqual(again, ([(1, 0, 2), (3, 2, 4), (2, 0, 4)], None))
        self.assertEqual(trail([3, 1, 3, 1, 3, 1]), again)
        trail([1, 1, 1])[0].append("more")
        self.assertEqual(trail([1, 1, 1]), ([], None))


if __name__ == "__main__":
    unittest.main()
