import unittest
from itertools import combinations, permutations

from friezeyard.errors import FloorError, NoLine
from friezeyard.turns import four_of, turned
from tests.helper import all_cuttings, no_pairs_of, numbers_by_the_words, rooms_by_the_words, some_cuttings

HEXAGON = (6, ((0, 2), (0, 4), (2, 4)))


def small_cuttings():
    return [cut for n in range(4, 8) for cut in all_cuttings(n)]


def thirds_by_the_words(cut, line):
    """Those corners whose both pairs with the line's corners are sides or lines, one on either side of it."""
    found = rooms_by_the_words(*cut)
    return [c for c in range(cut[0]) if tuple(sorted(line + (c,))) in found and c not in line]


class TurnedTest(unittest.TestCase):
    def test_four_corners(self):
        self.assertEqual(turned((4, ((0, 2),)), (0, 2)), ((4, ((1, 3),)), (1, 3)))
        self.assertEqual(turned((4, ((1, 3),)), (1, 3)), ((4, ((0, 2),)), (0, 2)))

    def test_six_corners(self):
        self.assertEqual(turned(HEXAGON, (0, 2)), ((6, ((0, 4), (1, 4), (2, 4))), (1, 4)))
        self.assertEqual(turned(HEXAGON, (0, 4)), ((6, ((0, 2), (2, 4), (2, 5))), (2, 5)))
        self.assertEqual(turned(HEXAGON, (2, 4)), ((6, ((0, 2), (0, 3), (0, 4))), (0, 3)))

    def test_every_line_of_small_floors(self):
        for cut in small_cuttings():
            cuttings = all_cuttings(cut[0])
            for line in cut[1]:
                told, new = turned(cut, line)
                self.assertEqual(new, tuple(thirds_by_the_words(cut, line)))
                self.assertEqual(told[1], tuple(sorted(set(cut[1]) - {line} | {new})))
                self.assertIn(told, cuttings)

    def test_the_new_line_turned_is_the_old_cutting(self):
        for cut in small_cuttings() + some_cuttings(60):
            for line in cut[1]:
                told, new = turned(cut, line)
                self.assertEqual(turned(told, new), (cut, line))

    def test_the_numbers(self):
        for cut in small_cuttings():
            for line in cut[1]:
                told, new = turned(cut, line)
                wanted = numbers_by_the_words(*cut)
                for corner in range(cut[0]):
                    wanted[corner] += (corner in new) - (corner in line)
                self.assertEqual(numbers_by_the_words(*told), wanted)

    def test_sixty_corners(self):
        fan = some_cuttings(60)[0]
        for c in range(2, 59):
            told, new = turned(fan, (0, c))
            self.assertEqual(new, (c - 1, c + 1))
            self.assertEqual(told, (60, tuple(sorted([line for line in fan[1] if line != (0, c)] + [new]))))

    def test_two_lines_of_no_common_triangle_in_either_order(self):
        for cut in small_cuttings():
            found = rooms_by_the_words(*cut)
            for one, other in combinations(cut[1], 2):
                if not [corners for corners in found if set(one + other) <= set(corners)]:
                    first, second = turned(cut, one)[0], turned(cut, other)[0]
                    self.assertEqual(turned(first, other)[0], turned(second, one)[0])
                    self.assertEqual(turned(first, other)[1], turned(cut, other)[1])

    def test_five_turnings_of_two_lines_of_one_triangle(self):
        pairs = 0
        for cut in small_cuttings() + some_cuttings(12):
            found = rooms_by_the_words(*cut)
            for one, other in permutations(cut[1], 2):
                if [corners for corners in found if set(one + other) <= set(corners)]:
                    now, third = turned(cut, one)
                    now, fourth = turned(now, other)
                    now, fifth = turned(now, third)
                    now, unused = turned(now, fourth)
                    now, unused = turned(now, fifth)
                    self.assertEqual(now, cut)
                    pairs += 1
        self.assertGreater(pairs, 100)

    def test_kinds(self):
        told = turned(HEXAGON, (0, 2))
        for thing in (told, told[0], told[0][1], told[0][1][0], told[1]):
            self.assertIs(type(thing), tuple)


class FourOfTest(unittest.TestCase):
    def test_a_few(self):
        self.assertEqual(four_of((4, ((0, 2),)), (0, 2)), (0, 1, 2, 3))
        self.assertEqual(four_of(HEXAGON, (0, 2)), (0, 1, 2, 4))
        self.assertEqual(four_of(HEXAGON, (0, 4)), (0, 2, 4, 5))
        self.assertEqual(four_of(HEXAGON, (2, 4)), (0, 2, 3, 4))
        self.assertIs(type(four_of(HEXAGON, (0, 2))), tuple)

    def test_every_line_of_small_floors(self):
        for cut in small_cuttings():
            for line in cut[1]:
                self.assertEqual(four_of(cut, line), tuple(sorted(list(line) + thirds_by_the_words(cut, line))))

    def test_sixty_corners(self):
        self.assertEqual([four_of(some_cuttings(60)[0], (0, c)) for c in range(2, 59)],
                         [(0, c - 1, c, c + 1) for c in range(2, 59)])
        self.assertEqual(four_of(some_cuttings(60)[2], (57, 59)), (56, 57, 58, 59))


class NoLineTest(unittest.TestCase):
    def test_sides_lines_that_are_not_there_and_greater_numbers_first(self):
        for cut in ((3, ()), (4, ((0, 2),)), HEXAGON, some_cuttings(60)[0], some_cuttings(60)[3]):
            for p in no_pairs_of(cut[0], cut[1]):
                self.assertRaises(NoLine, turned, cut, p)
                self.assertRaises(NoLine, four_of, cut, p)

    def test_three_corners_have_no_line(self):
        for p in ((0, 1), (0, 2), (1, 2), (2, 0)):
            self.assertRaises(NoLine, turned, (3, ()), p)
            self.assertRaises(NoLine, four_of, (3, ()), p)

    def test_true_and_false_are_no_corners(self):
        cut = (5, ((1, 3), (1, 4)))
        self.assertRaises(NoLine, turned, cut, (True, 3))
        self.assertRaises(NoLine, four_of, cut, (True, 3))

    def test_the_refusal_is_a_floor_error(self):
        self.assertRaises(FloorError, turned, HEXAGON, (2, 0))


if __name__ == "__main__":
    unittest.main()
