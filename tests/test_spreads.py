import unittest

from friezeyard.bands import entry
from friezeyard.errors import FloorError, NoCorner
from friezeyard.rooms import triangles
from friezeyard.spreads import spread
from tests.helper import (all_cuttings, band_by_the_words, no_corners, numbers_by_the_words, sides_of, some_cuttings)

HEXAGON = (6, ((0, 2), (0, 4), (2, 4)))


class SpreadTest(unittest.TestCase):
    def test_a_few(self):
        self.assertEqual(spread((3, ()), 0), [0, 1, 1])
        self.assertEqual(spread((3, ()), 2), [1, 1, 0])
        self.assertEqual(spread((4, ((0, 2),)), 1), [1, 0, 1, 2])
        self.assertEqual(spread(HEXAGON, 0), [0, 1, 1, 2, 1, 1])
        self.assertEqual(spread(HEXAGON, 1), [1, 0, 1, 3, 2, 3])
        self.assertEqual(spread(HEXAGON, 5), [1, 3, 2, 3, 1, 0])

    def test_point_18_word_by_word(self):
        for cut in [cut for n in range(3, 8) for cut in all_cuttings(n)] + some_cuttings(60):
            n = cut[0]
            joined = set(sides_of(n)) | set(cut[1])
            for corner in range(n) if n < 60 else (0, 1, 29, 58, 59):
                told = spread(cut, corner)
                self.assertEqual(len(told), n)
                self.assertEqual(told[corner], 0)
                for c in range(n):
                    if tuple(sorted((c, corner))) in joined:
                        self.assertEqual(told[c], 1)
                for corners in [corners for corners in triangles(cut) if corner not in corners]:
                    x, y, z = sorted(corners, key=lambda c: (c - corner) % n)
                    self.assertEqual(told[y], told[x] + told[z], (cut, corner, corners))

    def test_held_against_the_band(self):
        for cut in [cut for n in range(3, 9) for cut in all_cuttings(n)]:
            row = numbers_by_the_words(*cut)
            for corner in range(cut[0]):
                wanted = [band_by_the_words(row, min(c, corner), max(c, corner)) for c in range(cut[0])]
                self.assertEqual(spread(cut, corner), wanted, (cut, corner))

    def test_sixty_corners(self):
        for cut in some_cuttings(60) + some_cuttings(59):
            for corner in (0, 1, 17, 30, cut[0] - 1):
                wanted = [entry(cut, min(c, corner), max(c, corner)) for c in range(cut[0])]
                self.assertEqual(spread(cut, corner), wanted, (cut, corner))

    def test_what_is_no_corner(self):
        for cut in ((3, ()), HEXAGON, some_cuttings(60)[0]):
            for thing in no_corners(cut[0]):
                self.assertRaises(NoCorner, spread, cut, thing)
        self.assertRaises(FloorError, spread, HEXAGON, 6)

    def test_what_is_told_belongs_to_the_asker(self):
        told, again = spread(HEXAGON, 1), spread(HEXAGON, 1)
        self.assertIs(type(told), list)
        told.clear()
        self.assertEqual(again, [1, 0, 1, 3, 2, 3])
        self.assertEqual(spread(HEXAGON, 1), again)


if __name__ == "__main__":
    unittest.main()
