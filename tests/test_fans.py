import unittest
from random import Random

from friezeyard.errors import FloorError, NoCorner, NoFloor
from friezeyard.fans import fan, to_fan
from tests.helper import NO_FLOORS, all_cuttings, drawn_cutting, fan_lines, no_corners, some_cuttings, walk_over

HEXAGON = (6, ((0, 2), (0, 4), (2, 4)))


class FanTest(unittest.TestCase):
    def test_a_few(self):
        self.assertEqual(fan(4, 0), (4, ((0, 2),)))
        self.assertEqual(fan(4, 3), (4, ((1, 3),)))
        self.assertEqual(fan(6, 0), (6, ((0, 2), (0, 3), (0, 4))))
        self.assertEqual(fan(6, 2), (6, ((0, 2), (2, 4), (2, 5))))
        self.assertEqual(fan(6, 5), (6, ((1, 5), (2, 5), (3, 5))))

    def test_three_corners(self):
        self.assertEqual([fan(3, corner) for corner in range(3)], [(3, ())] * 3)

    def test_sixty_corners(self):
        self.assertEqual(fan(60, 0), (60, tuple((0, c) for c in range(2, 59))))
        self.assertEqual(fan(60, 59), (60, tuple((c, 59) for c in range(1, 58))))
        self.assertEqual(fan(60, 1), (60, tuple((1, c) for c in range(3, 60))))

    def test_every_corner_of_every_floor(self):
        for n in range(3, 61):
            for corner in range(n) if n < 12 else (0, 1, n // 2, n - 2, n - 1):
                told = fan(n, corner)
                self.assertEqual(told, (n, fan_lines(n, corner)))
                self.assertEqual(len(told[1]), n - 3)

    def test_kinds(self):
        for thing in (fan(6, 2), fan(6, 2)[1], fan(6, 2)[1][0]):
            self.assertIs(type(thing), tuple)

    def test_what_is_no_floor(self):
        for n in NO_FLOORS:
            self.assertRaises(NoFloor, fan, n, 0)

    def test_what_is_no_corner(self):
        for n in (3, 4, 6, 60):
            for thing in no_corners(n):
                self.assertRaises(NoCorner, fan, n, thing)

    def test_no_floor_comes_ahead_of_no_corner(self):
        for n in NO_FLOORS:
            for thing in no_corners(60):
                self.assertRaises(NoFloor, fan, n, thing)

    def test_the_refusals_are_floor_errors(self):
        self.assertRaises(FloorError, fan, 2, 0)
        self.assertRaises(FloorError, fan, 6, 6)


class ToFanTest(unittest.TestCase):
    def check(self, cut, corner, way):
        cuts, came = walk_over(cut, way)
        self.assertEqual(cuts[-1], (cut[0], fan_lines(cut[0], corner)), (cut, corner))
        self.assertTrue(all(corner in line for line in came), (cut, corner))
        self.assertEqual(len(way), cut[0] - 3 - len([line for line in cut[1] if corner in line]))

    def test_a_few(self):
        self.assertEqual(to_fan((3, ()), 2), [])
        self.assertEqual(to_fan((4, ((0, 2),)), 1), [(0, 2)])
        self.assertEqual(to_fan((4, ((0, 2),)), 2), [])
        self.assertEqual(to_fan(HEXAGON, 0), [(2, 4)])

    def test_every_corner_of_small_floors(self):
        for cut in [cut for n in range(3, 9) for cut in all_cuttings(n)]:
            for corner in range(cut[0]):
                self.check(cut, corner, to_fan(cut, corner))

    def test_every_corner_of_twelve(self):
        for cut in some_cuttings(12) + [drawn_cutting(12, Random(29))]:
            for corner in range(12):
                self.check(cut, corner, to_fan(cut, corner))

    def test_sixty_corners(self):
        for cut in some_cuttings(60) + [drawn_cutting(60, Random(seed)) for seed in range(3)]:
            for corner in (0, 1, 17, 30, 58, 59):
                self.check(cut, corner, to_fan(cut, corner))

    def test_from_fans(self):
        for n in (3, 4, 7, 60):
            for corner in (0, 1, 2, n - 1):
                cut = (n, fan_lines(n, corner))
                self.assertEqual(to_fan(cut, corner), [])
                self.check(cut, 0, to_fan(cut, 0))
                self.check(cut, n - 1, to_fan(cut, n - 1))

    def test_the_corner_is_0_where_none_is_handed_in(self):
        for cut in all_cuttings(7) + some_cuttings(60):
            self.assertEqual(to_fan(cut), to_fan(cut, 0))
            self.check(cut, 0, to_fan(cut))

    def test_the_corner_is_called_corner(self):
        self.check(HEXAGON, 3, to_fan(HEXAGON, corner=3))

    def test_what_is_no_corner(self):
        for cut in [(3, ()), HEXAGON] + some_cuttings(60)[:1]:
            for thing in no_corners(cut[0]):
                self.assertRaises(NoCorner, to_fan, cut, thing)
        self.assertRaises(FloorError, to_fan, HEXAGON, 6)

    def test_what_is_told_belongs_to_the_asker(self):
        told, again = to_fan(HEXAGON, 1), to_fan(HEXAGON, 1)
        self.assertIs(type(told), list)
        self.assertTrue(all(type(line) is tuple for line in told))
        told.clear()
        self.check(HEXAGON, 1, again)
        self.assertEqual(to_fan(HEXAGON, 1), again)
        to_fan((3, ())).append("more")
        self.assertEqual(to_fan((3, ())), [])


if __name__ == "__main__":
    unittest.main()
