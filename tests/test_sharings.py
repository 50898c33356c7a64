import unittest
from itertools import product

from friezeyard.bands import entry
from friezeyard.errors import FloorError, NoCorner, TooMany
from friezeyard.sharings import sharings
from tests.helper import all_cuttings, no_corners, rooms_by_the_words, some_cuttings

HEXAGON = (6, ((0, 2), (0, 4), (2, 4)))


def all_sharings(cut):
    """Point 19, word by word: by the two corners that are given to none, a lesser first."""
    n, found = cut[0], {}
    for given in product(*rooms_by_the_words(*cut)):
        without = tuple(c for c in range(n) if c not in given)
        if len(without) == 2 and all(given.count(c) == 1 for c in given):
            found.setdefault(without, []).append(given)
    return {without: sorted(given) for without, given in found.items()}


class SharingsTest(unittest.TestCase):
    def test_three_and_four_corners(self):
        self.assertEqual(sharings((3, ()), 0, 1), [(2,)])
        self.assertEqual(sharings((3, ()), 2, 0), [(1,)])
        self.assertEqual(sharings((4, ((0, 2),)), 0, 2), [(1, 3)])
        self.assertEqual(sharings((4, ((0, 2),)), 1, 3), [(0, 2), (2, 0)])
        self.assertEqual(sharings((4, ((0, 2),)), 1, 2), [(0, 3)])

    def test_six_corners(self):
        self.assertEqual(sharings(HEXAGON, 1, 4), [(0, 2, 5, 3), (2, 0, 5, 3)])
        self.assertEqual(sharings(HEXAGON, 4, 1), [(0, 2, 5, 3), (2, 0, 5, 3)])

    def test_every_pair_of_corners_of_small_floors_by_the_words(self):
        for cut in [cut for n in range(3, 9) for cut in all_cuttings(n)]:
            wanted = all_sharings(cut)
            for i, j in product(range(cut[0]), repeat=2):
                told = sharings(cut, i, j)
                self.assertEqual(told, wanted.get(tuple(sorted((i, j))), []), (cut, i, j))
                self.assertEqual(len(told), entry(cut, min(i, j), max(i, j)))

    def test_alike_corners(self):
        for cut in ((3, ()), HEXAGON, some_cuttings(12)[3]):
            for corner in range(cut[0]):
                self.assertEqual(sharings(cut, corner, corner), [])

    def test_twelve_corners(self):
        for cut in some_cuttings(12):
            found = rooms_by_the_words(*cut)
            for i, j in product(range(12), repeat=2):
                told = sharings(cut, i, j)
                self.assertEqual(len(told), entry(cut, min(i, j), max(i, j)))
                self.assertEqual(told, sorted(set(told)))
                for given in told:
                    self.assertTrue(all(c in corners for c, corners in zip(given, found)))
                    self.assertEqual(sorted(given), [c for c in range(12) if c not in (i, j)])

    def test_above_twelve_corners_are_too_many(self):
        for n in (13, 14, 60):
            for cut in some_cuttings(n):
                for i, j in ((0, 1), (0, 2), (n - 1, 0), (3, 9), (0, 0), (n - 1, n - 1)):
                    self.assertRaises(TooMany, sharings, cut, i, j)

    def test_what_is_no_corner(self):
        for cut in ((3, ()), HEXAGON, some_cuttings(12)[0]):
            for thing in no_corners(cut[0]):
                self.assertRaises(NoCorner, sharings, cut, thing, 0)
                self.assertRaises(NoCorner, sharings, cut, 0, thing)
                self.assertRaises(NoCorner, sharings, cut, thing, thing)

    def test_no_corner_comes_ahead_of_too_many(self):
        for cut in (some_cuttings(13)[0], some_cuttings(60)[0]):
            for thing in no_corners(cut[0]):
                self.assertRaises(NoCorner, sharings, cut, thing, 0)
                self.assertRaises(NoCorner, sharings, cut, 0, thing)
                self.assertRaises(NoCorner, sharings, cut, thing, thing)

    def test_the_refusals_are_floor_errors(self):
        self.assertRaises(FloorError, sharings, HEXAGON, 0, 6)
        self.assertRaises(FloorError, sharings, some_cuttings(13)[0], 0, 1)

    def test_what_is_told_belongs_to_the_asker(self):
        told, again = sharings(HEXAGON, 1, 4), sharings(HEXAGON, 1, 4)
        self.assertIs(type(told), list)
        self.assertTrue(all(type(given) is tuple for given in told))
        told.clear()
        self.assertEqual(again, [(0, 2, 5, 3), (2, 0, 5, 3)])
        self.assertEqual(sharings(HEXAGON, 1, 4), again)
        sharings(HEXAGON, 2, 2).append("more")
        self.assertEqual(sharings(HEXAGON, 2, 2), [])


if __name__ == "__main__":
    unittest.main()
