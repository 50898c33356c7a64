import copy
import unittest
from itertools import combinations, product

from friezeyard.bands import closes, entry, ones, read_off, strip
from friezeyard.ears import grown
from friezeyard.errors import FloorError, NoBand, NoRow
from tests.helper import (NO_ROWS, SIXTY, all_cuttings, band_by_the_words, lines_of, numbers_by_the_words, rows_near,
                          sides_of, some_cuttings)

THIRTY = 10 ** 30 - 1  # the greatest whole number of thirty figures
HEXAGON = (6, ((0, 2), (0, 4), (2, 4)))
OPEN_ROWS = [[0, 0, 0], [2, 2, 2], [1, 1, 2], [-1, 1, 1], [-1, -1, -1], [1, 1, 1, 1], [2, 2, 2, 2], [0, 5, 0, 5],
             [3, 1, 3, 1, 3, 2], [-3, 1, -3, 1, -3, 1], [1, 2, -5, 7, 0], [1, 1, 1, 1, 1, 1], [THIRTY, 1, -THIRTY],
             [THIRTY, -THIRTY, THIRTY - 7, 1, 0], [2] * 59, [-2] * 60, [58, 1] + [2] * 57 + [2]]


def strip_by_the_words(row):
    n = len(row)
    return [[band_by_the_words(row, i, i + d) for d in range(n + 2)] for i in range(n)]


def closes_by_the_words(row):
    n = len(row)
    return all(min(found[1:n]) > 0 and found[n:] == [0, -1] for found in strip_by_the_words(row))


def ones_by_the_words(row):
    return [p for p in lines_of(len(row)) if band_by_the_words(row, *p) == 1]


def cuttings_and_rows(least, most):
    return [(cut, numbers_by_the_words(*cut)) for n in range(least, most + 1) for cut in all_cuttings(n)]


class StripTest(unittest.TestCase):
    def test_three_and_four_corners(self):
        self.assertEqual(strip([1, 1, 1]), [[0, 1, 1, 0, -1]] * 3)
        self.assertEqual(strip([2, 1, 2, 1]), [[0, 1, 1, 1, 0, -1], [0, 1, 2, 1, 0, -1]] * 2)

    def test_rows_that_do_not_close(self):
        self.assertEqual(strip([1, 2, 3]), [[0, 1, 2, 5, 3], [0, 1, 3, 2, 1], [0, 1, 1, 1, 2]])
        self.assertEqual(strip([0, -1, 2]), [[0, 1, -1, -3, 1], [0, 1, 2, -1, -1], [0, 1, 0, -1, -2]])

    def test_by_the_words(self):
        for row in [row for cut, row in cuttings_and_rows(3, 7)] + OPEN_ROWS:
            self.assertEqual(strip(row), strip_by_the_words(row), row)

    def test_sixty_corners(self):
        for cut in some_cuttings(60):
            row = numbers_by_the_words(*cut)
            told = strip(row)
            self.assertEqual(told, strip_by_the_words(row))
            self.assertEqual([len(told), {len(found) for found in told}], [60, {62}])

    def test_numbers_of_thirty_figures(self):
        for row in ([THIRTY] * 60, [-THIRTY] * 60, [THIRTY, -THIRTY, 0] * 20):
            self.assertEqual(strip(row), strip_by_the_words(row))

    def test_each_list_of_it_is_a_list_by_itself(self):
        told, again = strip([1, 1, 1]), strip([1, 1, 1])
        self.assertIs(type(told), list)
        self.assertTrue(all(type(found) is list for found in told))
        told[0].append("more")
        told[1][0] = None
        self.assertEqual(told[2], [0, 1, 1, 0, -1])
        self.assertEqual(told[1], [None, 1, 1, 0, -1])
        told.clear()
        self.assertEqual(again, [[0, 1, 1, 0, -1]] * 3)
        self.assertEqual(strip([1, 1, 1]), again)


class ClosesTest(unittest.TestCase):
    def test_rows_of_cuttings_close(self):
        for cut, row in cuttings_and_rows(3, 8):
            self.assertIs(closes(row), True, cut)
        for cut in some_cuttings(59) + some_cuttings(60):
            self.assertIs(closes(numbers_by_the_words(*cut)), True, cut)

    def test_other_rows_do_not(self):
        for row in OPEN_ROWS:
            self.assertIs(closes(row), False, row)
        for cut in some_cuttings(60):
            for row in rows_near(numbers_by_the_words(*cut))[::9]:
                self.assertIs(closes(row), False, row)

    def test_all_rows_of_small_numbers(self):
        for n, greatest in ((3, 4), (4, 4), (5, 3), (6, 4)):
            rows = [numbers_by_the_words(*cut) for cut in all_cuttings(n)]
            for row in product(range(-2, greatest + 1), repeat=n):
                self.assertIs(closes(list(row)), list(row) in rows, row)

    def test_the_end_alone_is_not_enough(self):
        # Each number of these bands that closes a strip is right; a number within is below 1.
        row = [0, 0, 0, 0, 0, 0]
        self.assertEqual([found[6:] for found in strip(row)], [[0, -1]] * 6)
        self.assertIs(closes(row), False)
        row = [1] * 9
        self.assertEqual([found[9:] for found in strip(row)], [[0, -1]] * 9)
        self.assertIs(closes(row), False)

    def test_by_the_words(self):
        for row in product(range(-1, 4), repeat=5):
            self.assertIs(closes(list(row)), closes_by_the_words(row), row)


class EntryTest(unittest.TestCase):
    def test_a_few(self):
        self.assertEqual([entry((3, ()), 0, j) for j in range(-4, 8)], [1, 0, -1, -1, 0, 1, 1, 0, -1, -1, 0, 1])
        self.assertEqual([entry(HEXAGON, 1, j) for j in range(1, 8)], [0, 1, 3, 2, 3, 1, 0])
        self.assertEqual(entry((4, ((0, 2),)), 1, 3), 2)

    def test_by_the_words_upwards_and_downwards(self):
        for cut, row in cuttings_and_rows(3, 6):
            n = cut[0]
            for i in range(-2 * n, 2 * n + 1):
                for j in range(-2 * n, 2 * n + 1):
                    self.assertEqual(entry(cut, i, j), band_by_the_words(row, i, j), (cut, i, j))

    def test_sixty_corners(self):
        for cut in some_cuttings(60):
            row = numbers_by_the_words(*cut)
            for i in (-61, -60, -1, 0, 29, 59, 60, 100):
                for j in (-130, -61, -60, -59, -1, 0, 1, 30, 59, 60, 61, 119, 120, 121, 180):
                    self.assertEqual(entry(cut, i, j), band_by_the_words(row, i, j), (i, j))

    def test_alike_and_next(self):
        for i in (-SIXTY, -7, -1, 0, 1, 5, 6, SIXTY):
            self.assertEqual(entry(HEXAGON, i, i), 0)
            self.assertEqual(entry(HEXAGON, i, i + 1), 1)
            self.assertEqual(entry(HEXAGON, i, i - 1), -1)
            self.assertEqual(entry(HEXAGON, i - 1, i + 1), [3, 1, 3, 1, 3, 1][i % 6])

    def test_numbers_of_sixty_figures(self):
        great = 10 ** 59
        for cut, row in cuttings_and_rows(3, 6) + [(cut, numbers_by_the_words(*cut)) for cut in some_cuttings(60)]:
            n = cut[0]
            for times in (great // n, great // n + 1, -(great // n), -(great // n) - 1):
                sign = 1 if times % 2 == 0 else -1
                for i, j in ((0, 1), (1, 0), (0, 2), (2, 0), (1, n - 1), (0, n - 2)):
                    wanted = band_by_the_words(row, i, j)
                    self.assertEqual(entry(cut, i + times * n, j), sign * wanted)
                    self.assertEqual(entry(cut, i, j + times * n), sign * wanted)
                    self.assertEqual(entry(cut, i + times * n, j + times * n), wanted)

    def test_the_band_comes_again(self):
        far = [-SIXTY, 3 - SIXTY, -5, 0, 2, 7, SIXTY - 4, SIXTY]
        for cut in all_cuttings(6) + some_cuttings(59) + some_cuttings(60):
            n = cut[0]
            for i in far:
                for j in far:
                    told = entry(cut, i, j)
                    self.assertEqual(told, entry(cut, j, i + n))
                    self.assertEqual(told, -entry(cut, j, i))
                    self.assertEqual(told, -entry(cut, i + n, j))

    def test_products(self):
        for cut in all_cuttings(5) + some_cuttings(60):
            far = (-SIXTY, -3, 0, 4, 8, SIXTY)
            m = {(i, j): entry(cut, i, j) for i in far for j in far}
            for i, j, k, l in product(far, repeat=4):
                self.assertEqual(m[i, k] * m[j, l], m[i, j] * m[k, l] + m[i, l] * m[j, k], (cut, i, j, k, l))

    def test_one_just_at_sides_and_lines(self):
        for cut in [cut for n in range(3, 8) for cut in all_cuttings(n)] + [some_cuttings(60)[3]]:
            joined = [p for p in combinations(range(cut[0]), 2) if entry(cut, *p) == 1]
            self.assertEqual(joined, sorted(sides_of(cut[0]) + list(cut[1])))

    def test_a_grown_cutting(self):
        for cut in all_cuttings(6):
            for at in range(6):
                told, new = grown(cut, at), at + 1
                m = lambda a, b: entry(told, min(a, b), max(a, b))
                old = {c: c if c <= at else c + 1 for c in range(6)}
                for a, b in combinations(range(6), 2):
                    self.assertEqual(entry(cut, a, b), m(old[a], old[b]))
                for c in old.values():
                    self.assertEqual(m(new, c), m(old[at], c) + m(old[(at + 1) % 6], c))


class OnesTest(unittest.TestCase):
    def test_a_few(self):
        self.assertEqual(ones([1, 1, 1]), [])
        self.assertEqual(ones([2, 1, 2, 1]), [(0, 2)])
        self.assertEqual(ones([3, 1, 3, 1, 3, 1]), [(0, 2), (0, 4), (2, 4)])

    def test_of_a_cutting_its_lines(self):
        for cut, row in cuttings_and_rows(3, 8):
            self.assertEqual(ones(row), list(cut[1]))
        for cut in some_cuttings(60):
            self.assertEqual(ones(numbers_by_the_words(*cut)), list(cut[1]))

    def test_rows_that_do_not_close(self):
        self.assertEqual(ones([1, 1, 1, 1]), [(0, 2), (1, 3)])
        self.assertEqual(ones([0, 1, 2, 1, 5]), [(0, 2), (0, 3), (1, 4), (2, 4)])
        self.assertEqual(ones([2, 2, 2, 2]), [])
        self.assertEqual(ones([0, 0, 0, 0, 0, 0]), [])
        for row in OPEN_ROWS:
            self.assertEqual(ones(row), ones_by_the_words(row), row)
        for row in product(range(-1, 3), repeat=6):
            self.assertEqual(ones(list(row)), ones_by_the_words(row), row)

    def test_kinds(self):
        told = ones([3, 1, 3, 1, 3, 1])
        self.assertIs(type(told), list)
        self.assertTrue(all(type(p) is tuple for p in told))
        told.clear()
        self.assertEqual(ones([3, 1, 3, 1, 3, 1]), [(0, 2), (0, 4), (2, 4)])


class ReadOffTest(unittest.TestCase):
    def test_rows_of_cuttings(self):
        for cut, row in cuttings_and_rows(3, 8):
            self.assertEqual(read_off(row), cut)
        for cut in some_cuttings(59) + some_cuttings(60):
            self.assertEqual(read_off(numbers_by_the_words(*cut)), cut)
        self.assertIs(type(read_off([3, 1, 3, 1, 3, 1])[1]), tuple)

    def test_rows_that_do_not_close(self):
        for row in OPEN_ROWS + rows_near([3, 1, 3, 1, 3, 1]) + [[0] * 6, [1] * 9]:
            self.assertRaises(NoBand, read_off, row)


class RowsHandedInTest(unittest.TestCase):
    def test_what_is_no_row(self):
        for thing in NO_ROWS:
            for asked in (strip, closes, ones, read_off):
                self.assertRaises(NoRow, asked, thing)

    def test_no_row_comes_ahead_of_no_band(self):
        for row in ([0, 0], [0, 0, True], [2] * 61, (2, 2, 2)):
            self.assertRaises(NoRow, read_off, row)

    def test_the_refusals_are_floor_errors(self):
        self.assertRaises(FloorError, strip, [1, 1])
        self.assertRaises(FloorError, read_off, [2, 2, 2])

    def test_the_row_handed_in_stays(self):
        for row in ([3, 1, 3, 1, 3, 1], [2, 2, 2], [1, 1], [1, None, 1]):
            kept = copy.deepcopy(row)
            for asked in (strip, closes, ones, read_off):
                try:
                    asked(row)
                except FloorError:
                    pass
                self.assertEqual(row, kept)


if __name__ == "__main__":
    unittest.main()
