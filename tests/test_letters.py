import unittest

from friezeyard.errors import FloorError, NoLine
from friezeyard.letters import letter, letters
from tests.helper import all_cuttings, no_pairs_of, sides_of, some_cuttings

HEXAGON = (6, ((0, 2), (0, 4), (2, 4)))


class LettersTest(unittest.TestCase):
    def test_a_few(self):
        self.assertEqual(letters((3, ())), [(0, 1), (0, 2), (1, 2)])
        self.assertEqual(letters((4, ((1, 3),))), [(0, 1), (0, 3), (1, 2), (1, 3), (2, 3)])
        self.assertEqual(letters(HEXAGON),
                         [(0, 1), (0, 2), (0, 4), (0, 5), (1, 2), (2, 3), (2, 4), (3, 4), (4, 5)])

    def test_small_floors_and_sixty_corners(self):
        for cut in [cut for n in range(3, 8) for cut in all_cuttings(n)] + some_cuttings(60):
            told = letters(cut)
            self.assertEqual(told, sorted(sides_of(cut[0]) + list(cut[1])))
            self.assertEqual(len(told), 2 * cut[0] - 3)

    def test_what_is_told_belongs_to_the_asker(self):
        told, again = letters(HEXAGON), letters(HEXAGON)
        self.assertIs(type(told), list)
        self.assertTrue(all(type(p) is tuple for p in told))
        told.clear()
        self.assertEqual(len(again), 9)
        self.assertEqual(letters(HEXAGON), again)


class LetterTest(unittest.TestCase):
    def test_a_few(self):
        self.assertEqual(letter((3, ()), (0, 1)), [((1, 0, 0), 1)])
        self.assertEqual(letter((3, ()), (0, 2)), [((0, 1, 0), 1)])
        self.assertEqual(letter((3, ()), (1, 2)), [((0, 0, 1), 1)])
        self.assertEqual(letter((4, ((1, 3),)), (1, 3)), [((0, 0, 0, 1, 0), 1)])
        self.assertEqual(letter(HEXAGON, (0, 5)), [((0, 0, 0, 1, 0, 0, 0, 0, 0), 1)])

    def test_sides_and_lines_of_small_floors_and_of_sixty_corners(self):
        for cut in [cut for n in range(3, 7) for cut in all_cuttings(n)] + some_cuttings(60):
            for k, p in enumerate(sorted(sides_of(cut[0]) + list(cut[1]))):
                wanted = (0,) * k + (1,) + (0,) * (2 * cut[0] - 4 - k)
                self.assertEqual(letter(cut, p), [(wanted, 1)], (cut, p))

    def test_pairs_that_are_neither(self):
        for cut in ((3, ()), (4, ((0, 2),)), HEXAGON, some_cuttings(60)[0], some_cuttings(60)[3]):
            for p in no_pairs_of(cut[0], set(sides_of(cut[0])) | set(cut[1])):
                self.assertRaises(NoLine, letter, cut, p)
        self.assertRaises(FloorError, letter, HEXAGON, (2, 0))

    def test_true_and_false_are_no_corners(self):
        for p in ((False, 1), (0, True), (False, 2), (True, 2)):
            self.assertRaises(NoLine, letter, HEXAGON, p)

    def test_what_is_told_belongs_to_the_asker(self):
        told, again = letter((3, ()), (0, 1)), letter((3, ()), (0, 1))
        self.assertIs(type(told), list)
        told.clear()
        self.assertEqual(again, [((1, 0, 0), 1)])
        self.assertEqual(letter((3, ()), (0, 1)), again)


if __name__ == "__main__":
    unittest.main()
