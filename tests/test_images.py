import unittest
from random import Random

from friezeyard.errors import FloorError, NoFloor, TooMany
from friezeyard.images import keepers, least_image, mirrored, spun, unlike
from tests.helper import NO_FLOORS, SIXTY, all_cuttings, drawn_cutting, fan_lines, image_of, some_cuttings

HEXAGON = (6, ((0, 2), (0, 4), (2, 4)))
ZIGZAG = (6, ((0, 2), (2, 5), (3, 5)))
SMALL = [cut for n in range(3, 8) for cut in all_cuttings(n)]
GREAT = some_cuttings(8) + some_cuttings(12) + some_cuttings(59) + some_cuttings(60) + [drawn_cutting(60, Random(33))]


def images_of(cut):
    """All 2n images, by (by, over)."""
    return {(by, over): image_of(cut, by, over) for by in range(cut[0]) for over in (False, True)}


class SpunTest(unittest.TestCase):
    def test_a_few(self):
        self.assertEqual(spun(HEXAGON, 1), (6, ((1, 3), (1, 5), (3, 5))))
        self.assertEqual(spun(HEXAGON, 2), HEXAGON)
        self.assertEqual(spun((6, fan_lines(6, 0)), 5), (6, fan_lines(6, 5)))
        self.assertEqual(spun((3, ()), 2), (3, ()))

    def test_by_every_number(self):
        for cut in SMALL + GREAT:
            for by in (0, 1, 2, cut[0] - 1, cut[0], cut[0] + 1, -1, -2, -cut[0], 1000, -1000):
                self.assertEqual(spun(cut, by), image_of(cut, by, False), (cut, by))

    def test_by_numbers_of_sixty_figures(self):
        for cut in SMALL + GREAT[-3:]:
            for by in (SIXTY, -SIXTY, SIXTY - 1, 10 ** 59, -10 ** 59):
                self.assertEqual(spun(cut, by), image_of(cut, by % cut[0], False), (cut, by))
                self.assertEqual(spun(spun(cut, by), -by), cut)

    def test_by_1_where_no_number_is_handed_in(self):
        for cut in SMALL + GREAT:
            self.assertEqual(spun(cut), image_of(cut, 1, False))

    def test_the_number_is_called_by(self):
        self.assertEqual(spun(HEXAGON, by=3), image_of(HEXAGON, 3, False))

    def test_all_round(self):
        for cut in SMALL:
            now = cut
            for step in range(cut[0]):
                now = spun(now)
            self.assertEqual(now, cut)


class MirroredTest(unittest.TestCase):
    def test_a_few(self):
        self.assertEqual(mirrored((6, fan_lines(6, 0))), (6, fan_lines(6, 0)))
        self.assertEqual(mirrored((6, fan_lines(6, 1))), (6, fan_lines(6, 5)))
        self.assertEqual(mirrored(ZIGZAG), (6, ((0, 4), (1, 3), (1, 4))))

    def test_every_corner_goes_to_the_other_side(self):
        for cut in SMALL + GREAT:
            self.assertEqual(mirrored(cut), image_of(cut, 0, True))

    def test_twice_is_nothing(self):
        for cut in SMALL + GREAT:
            self.assertEqual(mirrored(mirrored(cut)), cut)

    def test_kinds(self):
        for told in (spun(HEXAGON, 1), mirrored(HEXAGON)):
            for thing in (told, told[1], told[1][0]):
                self.assertIs(type(thing), tuple)


class LeastImageTest(unittest.TestCase):
    def check(self, cut):
        images = images_of(cut)
        least = min(images.values(), key=lambda other: other[1])
        found, by, over = least_image(cut)
        self.assertEqual(found, least, cut)
        ways = [key for key in images if images[key] == least]
        straight = [own for own, is_over in ways if not is_over]
        wanted = (min(straight), False) if straight else (min(own for own, is_over in ways), True)
        self.assertEqual((by, over), wanted, cut)
        self.assertIs(type(over), bool)
        self.assertIs(type(by), int)

    def test_a_few(self):
        self.assertEqual(least_image((3, ())), ((3, ()), 0, False))
        self.assertEqual(least_image(HEXAGON), (HEXAGON, 0, False))
        self.assertEqual(least_image((4, ((1, 3),))), ((4, ((0, 2),)), 1, False))
        self.assertEqual(least_image(ZIGZAG), ((6, ((0, 2), (0, 3), (3, 5))), 2, True))

    def test_all_cuttings_to_seven_corners(self):
        for cut in SMALL:
            self.check(cut)

    def test_great_floors(self):
        for cut in GREAT:
            self.check(cut)

    def test_all_images_have_the_same(self):
        for cut in SMALL:
            self.assertEqual({least_image(other)[0] for other in images_of(cut).values()}, {least_image(cut)[0]})


class KeepersTest(unittest.TestCase):
    def check(self, cut):
        images = images_of(cut)
        told = keepers(cut)
        self.assertEqual(told, sorted(key for key in images if images[key] == cut), cut)
        self.assertEqual(len(set(images.values())) * len(told), 2 * cut[0])
        self.assertTrue(all(type(by) is int and type(over) is bool for by, over in told))

    def test_all_cuttings_to_seven_corners(self):
        for cut in SMALL:
            self.check(cut)

    def test_great_floors(self):
        for cut in GREAT:
            self.check(cut)

    def test_three_corners(self):
        self.assertEqual(keepers((3, ())), [(0, False), (0, True), (1, False), (1, True), (2, False), (2, True)])

    def test_spun_alone(self):
        self.assertEqual(keepers(ZIGZAG), [(0, False), (3, False)])

    def test_mirrored_alone(self):
        self.assertEqual(keepers((6, fan_lines(6, 0))), [(0, False), (0, True)])
        self.assertEqual(keepers((6, fan_lines(6, 1))), [(0, False), (2, True)])
        self.assertEqual(keepers((60, fan_lines(60, 59))), [(0, False), (58, True)])

    def test_both(self):
        self.assertEqual(keepers(HEXAGON), [(by, over) for by in (0, 2, 4) for over in (False, True)])
        self.assertEqual(keepers((4, ((0, 2),))), [(by, over) for by in (0, 2) for over in (False, True)])

    def test_neither(self):
        self.assertEqual(keepers((7, ((0, 2), (0, 3), (0, 5), (3, 5)))), [(0, False)])

    def test_what_is_told_belongs_to_the_asker(self):
        told, again = keepers(HEXAGON), keepers(HEXAGON)
        self.assertIs(type(told), list)
        told.clear()
        self.assertEqual(len(again), 6)
        self.assertEqual(keepers(HEXAGON), again)


class UnlikeTest(unittest.TestCase):
    def test_a_few(self):
        self.assertEqual(unlike(3), [(3, ())])
        self.assertEqual(unlike(4), [(4, ((0, 2),))])
        self.assertEqual(unlike(5), [(5, ((0, 2), (0, 3)))])
        self.assertEqual(unlike(6), [(6, ((0, 2), (0, 3), (0, 4))), (6, ((0, 2), (0, 3), (3, 5))), HEXAGON])

    def test_floors_to_eight_corners(self):
        for n, many in zip(range(3, 9), (1, 1, 1, 3, 4, 12)):
            least = {min(images_of(cut).values()) for cut in all_cuttings(n)}
            self.assertEqual(unlike(n), sorted(least, key=lambda cut: cut[1]))
            self.assertEqual(len(least), many)

    def test_above_eight_corners_are_too_many(self):
        for n in (9, 10, 13, 59, 60):
            self.assertRaises(TooMany, unlike, n)
        self.assertRaises(FloorError, unlike, 9)

    def test_what_is_no_floor(self):
        for n in NO_FLOORS:
            self.assertRaises(NoFloor, unlike, n)
        self.assertRaises(FloorError, unlike, 2)

    def test_what_is_told_belongs_to_the_asker(self):
        told, again = unlike(6), unlike(6)
        self.assertIs(type(told), list)
        told.clear()
        self.assertEqual(len(again), 3)
        self.assertEqual(unlike(6), again)


if __name__ == "__main__":
    unittest.main()
