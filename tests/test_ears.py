import unittest

from friezeyard.cuttings import cutting
from friezeyard.ears import grown, shorn
from friezeyard.errors import FloorError, NoCorner, NoEar, TooMany
from friezeyard.numbers import numbers
from tests.helper import all_cuttings, no_corners, numbers_by_the_words, some_cuttings

HEXAGON = (6, ((0, 2), (0, 4), (2, 4)))


def grown_by_the_words(cut, at):
    n, lines = cut
    names = {c: c + 1 if c > at else c for c in range(n)}
    old_side = tuple(sorted((names[at], names[(at + 1) % n])))
    return n + 1, tuple(sorted([(names[a], names[b]) for a, b in lines] + [old_side]))


class GrownTest(unittest.TestCase):
    def test_three_corners(self):
        self.assertEqual(grown((3, ()), 0), (4, ((0, 2),)))
        self.assertEqual(grown((3, ()), 1), (4, ((1, 3),)))
        self.assertEqual(grown((3, ()), 2), (4, ((0, 2),)))

    def test_six_corners(self):
        self.assertEqual(grown(HEXAGON, 0), (7, ((0, 2), (0, 3), (0, 5), (3, 5))))
        self.assertEqual(grown(HEXAGON, 3), (7, ((0, 2), (0, 5), (2, 5), (3, 5))))
        self.assertEqual(grown(HEXAGON, 4), (7, ((0, 2), (0, 4), (2, 4), (4, 6))))
        self.assertEqual(grown(HEXAGON, 5), (7, ((0, 2), (0, 4), (0, 5), (2, 4))))

    def test_every_corner_of_every_cutting_of_small_floors(self):
        for n in range(3, 8):
            cuttings = all_cuttings(n + 1)
            for cut in all_cuttings(n):
                for at in range(n):
                    told = grown(cut, at)
                    self.assertEqual(told, grown_by_the_words(cut, at), (cut, at))
                    self.assertIn(told, cuttings)

    def test_the_numbers(self):
        for cut in all_cuttings(7):
            for at in range(7):
                row = numbers_by_the_words(*cut)
                row[at] += 1
                row[(at + 1) % 7] += 1
                row.insert(at + 1, 1)
                self.assertEqual(numbers_by_the_words(*grown(cut, at)), row)

    def test_fifty_nine_corners(self):
        for cut in some_cuttings(59):
            for at in range(59):
                told = grown(cut, at)
                self.assertEqual(told, grown_by_the_words(cut, at))
                self.assertEqual(told, cutting(60, list(told[1])))

    def test_sixty_corners_are_too_many(self):
        for cut in some_cuttings(60):
            for at in (0, 1, 30, 58, 59):
                self.assertRaises(TooMany, grown, cut, at)

    def test_what_is_no_corner(self):
        for cut in ((3, ()), HEXAGON, some_cuttings(59)[0]):
            for thing in no_corners(cut[0]):
                self.assertRaises(NoCorner, grown, cut, thing)

    def test_no_corner_comes_ahead_of_too_many(self):
        for thing in no_corners(60):
            self.assertRaises(NoCorner, grown, some_cuttings(60)[0], thing)


class ShornTest(unittest.TestCase):
    def test_four_corners(self):
        for corner, cut in ((1, (4, ((0, 2),))), (3, (4, ((0, 2),))), (0, (4, ((1, 3),))), (2, (4, ((1, 3),)))):
            self.assertEqual(shorn(cut, corner), (3, ()))

    def test_six_corners(self):
        self.assertEqual(shorn(HEXAGON, 1), (5, ((0, 3), (1, 3))))
        self.assertEqual(shorn(HEXAGON, 3), (5, ((0, 2), (0, 3))))
        self.assertEqual(shorn(HEXAGON, 5), (5, ((0, 2), (2, 4))))

    def test_the_corners_nought_and_the_last(self):
        self.assertEqual(shorn((5, ((1, 3), (1, 4))), 0), (4, ((0, 2),)))
        self.assertEqual(shorn((5, ((0, 2), (0, 3))), 4), (4, ((0, 2),)))

    def test_growing_and_shearing_back(self):
        for n in range(3, 8):
            for cut in all_cuttings(n):
                for at in range(n):
                    self.assertEqual(shorn(grown(cut, at), at + 1), cut)
        for cut in some_cuttings(59):
            for at in range(59):
                self.assertEqual(shorn(grown(cut, at), at + 1), cut)

    def test_shearing_and_growing_back(self):
        for cut in [cut for n in range(4, 9) for cut in all_cuttings(n)] + some_cuttings(60):
            n, row = cut[0], numbers(cut)
            for corner in [corner for corner in range(1, n) if row[corner] == 1]:
                self.assertEqual(grown(shorn(cut, corner), corner - 1), cut, (cut, corner))

    def test_the_numbers(self):
        for cut in [cut for n in range(4, 8) for cut in all_cuttings(n)]:
            row = numbers_by_the_words(*cut)
            for corner in [corner for corner in range(cut[0]) if row[corner] == 1]:
                left = list(row)
                left[corner - 1] -= 1
                left[(corner + 1) % cut[0]] -= 1
                left.pop(corner)
                self.assertEqual(numbers_by_the_words(*shorn(cut, corner)), left)

    def test_a_corner_with_more_than_one_triangle(self):
        for cut in [cut for n in range(4, 8) for cut in all_cuttings(n)] + some_cuttings(60):
            row = numbers(cut)
            for corner in [corner for corner in range(cut[0]) if row[corner] != 1]:
                self.assertRaises(NoEar, shorn, cut, corner)

    def test_three_corners_have_no_ear(self):
        for corner in range(3):
            self.assertRaises(NoEar, shorn, (3, ()), corner)

    def test_what_is_no_corner(self):
        for cut in ((3, ()), (4, ((0, 2),)), HEXAGON, some_cuttings(60)[0]):
            for thing in no_corners(cut[0]):
                self.assertRaises(NoCorner, shorn, cut, thing)


class EarsTest(unittest.TestCase):
    def test_told_are_tuples(self):
        for cut in (grown((3, ()), 0), grown(HEXAGON, 5), shorn(HEXAGON, 1), shorn((4, ((0, 2),)), 1)):
            self.assertIs(type(cut), tuple)
            self.assertIs(type(cut[1]), tuple)
            self.assertTrue(all(type(line) is tuple for line in cut[1]))

    def test_the_refusals_are_floor_errors(self):
        self.assertRaises(FloorError, grown, HEXAGON, 6)
        self.assertRaises(FloorError, shorn, HEXAGON, 0)
        self.assertRaises(FloorError, grown, some_cuttings(60)[0], 0)


if __name__ == "__main__":
    unittest.main()
