import unittest

from friezeyard.numbers import numbers
from tests.helper import all_cuttings, numbers_by_the_words, some_cuttings

HEXAGON = (6, ((0, 2), (0, 4), (2, 4)))


class NumbersTest(unittest.TestCase):
    def test_a_few(self):
        self.assertEqual(numbers((3, ())), [1, 1, 1])
        self.assertEqual(numbers((4, ((0, 2),))), [2, 1, 2, 1])
        self.assertEqual(numbers((4, ((1, 3),))), [1, 2, 1, 2])
        self.assertEqual(numbers(HEXAGON), [3, 1, 3, 1, 3, 1])

    def test_every_cutting_of_small_floors(self):
        for n in range(3, 9):
            for cut in all_cuttings(n):
                self.assertEqual(numbers(cut), numbers_by_the_words(*cut), cut)

    def test_sixty_corners(self):
        for cut in some_cuttings(60):
            self.assertEqual(numbers(cut), numbers_by_the_words(*cut), cut)
        self.assertEqual(numbers(some_cuttings(60)[0]), [58, 1] + [2] * 57 + [1])

    def test_what_is_told_belongs_to_the_asker(self):
        told = numbers(HEXAGON)
        again = numbers(HEXAGON)
        self.assertIs(type(told), list)
        told[0] = 99
        told.clear()
        self.assertEqual(again, [3, 1, 3, 1, 3, 1])
        self.assertEqual(numbers(HEXAGON), [3, 1, 3, 1, 3, 1])
        self.assertEqual(HEXAGON, (6, ((0, 2), (0, 4), (2, 4))))


if __name__ == "__main__":
    unittest.main()
