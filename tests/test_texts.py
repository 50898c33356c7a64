import unittest

from friezeyard.errors import Crossed, FloorError, NoFloor, NoLine, NoText, NotFull
from friezeyard.texts import read, shown
from tests.helper import all_cuttings, some_cuttings

HEXAGON = (6, ((0, 2), (0, 4), (2, 4)))


class ShownTest(unittest.TestCase):
    def test_a_few(self):
        self.assertEqual(shown(HEXAGON), "6: 0-2 0-4 2-4")
        self.assertEqual(shown((3, ())), "3:")
        self.assertEqual(shown((4, ((1, 3),))), "4: 1-3")

    def test_numbers_of_two_figures(self):
        text = "12: 0-2 0-8 0-10 2-6 2-8 3-5 3-6 6-8 8-10"
        lines = ((0, 2), (0, 8), (0, 10), (2, 6), (2, 8), (3, 5), (3, 6), (6, 8), (8, 10))
        self.assertEqual(shown((12, lines)), text)
        self.assertEqual(read(text), (12, lines))

    def test_sixty_corners(self):
        cut = some_cuttings(60)[0]
        self.assertEqual(shown(cut), "60:" + "".join(" 0-" + str(c) for c in range(2, 59)))

    def test_it_is_the_same_each_time(self):
        self.assertEqual([shown(HEXAGON), shown(HEXAGON)], ["6: 0-2 0-4 2-4"] * 2)


class ReadTest(unittest.TestCase):
    def test_a_few(self):
        self.assertEqual(read("6: 0-2 0-4 2-4"), HEXAGON)
        self.assertEqual(read("3:"), (3, ()))
        self.assertEqual(read("4: 1-3"), (4, ((1, 3),)))

    def test_any_order_and_either_corner_first(self):
        for text in ("6: 2-4 0-2 0-4", "6: 0-4 4-2 2-0", "6: 4-2 4-0 2-0", "6: 4-0 0-2 4-2"):
            self.assertEqual(read(text), HEXAGON, text)

    def test_what_is_shown_is_read_back(self):
        for n in range(3, 9):
            for cut in all_cuttings(n):
                self.assertEqual(read(shown(cut)), cut)
        for n in (10, 11, 59, 60):
            for cut in some_cuttings(n):
                self.assertEqual(read(shown(cut)), cut)


class NoTextTest(unittest.TestCase):
    def test_what_is_no_text(self):
        for thing in (None, True, 3, 0, (), ("3:",), [], ["3:"], {}, {"3:": 1}, b"3:", 3.0, object(), (3, ()), HEXAGON):
            self.assertRaises(NoText, read, thing)

    def test_no_colon_or_not_in_its_place(self):
        for text in ("", " ", ":", "::", "3", "4", "4 0-2", "4 : 0-2", "4:0-2", ":4 0-2", "4::", "4:: 0-2", "4: 0-2:",
                     "4: 0:2", "4; 0-2", "4:0-2 1-3", "4: 0-2 4:", "3:3", "3:3:"):
            self.assertRaises(NoText, read, text)

    def test_a_nought_ahead_of_another_figure(self):
        for text in ("03:", "00:", "06: 0-2 0-4 2-4", "6: 00-2 0-4 2-4", "6: 0-02 0-4 2-4", "6: 0-2 0-4 02-4",
                     "6: 0-2 0-4 2-04", "003:", "4: 00-02"):
            self.assertRaises(NoText, read, text)

    def test_two_blanks_and_blanks_at_an_end(self):
        for text in (" 3:", "3: ", "3:  ", " 4: 0-2", "4:  0-2", "4: 0-2 ", "6: 0-2  0-4 2-4", "4 : 0-2", "4: 0 -2",
                     "4: 0- 2", "4: 0 - 2", "4: 0-2  "):
            self.assertRaises(NoText, read, text)

    def test_three_figures_and_none(self):
        for text in ("100:", "006:", "999: 0-2", "4: 0-100", "4: 100-2", "4: 000-2", "4: -2", "4: 0-", "4: -", "4: 0",
                     "4: 2", "123456789012345678901234567890:"):
            self.assertRaises(NoText, read, text)

    def test_other_signs(self):
        for text in ("3:\n", "\n3:", "4: 0-2\n", "4:\n0-2", "4: 0-2\r", "4:\t0-2", "4: 0-2\t", "4: 0\n-2", "4: 0-\n2",
                     "6: 0-2\n0-4 2-4", "x:", "4: a-b", "4: 0-2x", "4: 0_2", "4: 0+2", "4: +0-2", "4: 0-+2", "+4: 0-2",
                     "-4: 0-2", "4: 0--2", "4: -0-2", "4: 0-2-", "4: 0-2-3", "4: 0-2,1-3", "4.: 0-2", "1_0:", "4: 1_-3",
                     "4: 0-2 x", "4: (0,2)", "x3:", "3x:", "\x003:"):
            self.assertRaises(NoText, read, text)

    def test_it_comes_ahead_of_the_refusals_of_a_cutting(self):
        for text in ("2: 0-2 x", "61: 0-02", "4: 0-1 0-", "4: 0-2 1-3 ", "6: 0-2\n", "6: 0-2 0-2  0-4"):
            self.assertRaises(NoText, read, text)

    def test_the_refusal_is_a_floor_error(self):
        self.assertRaises(FloorError, read, "4")


class OtherRefusalsTest(unittest.TestCase):
    def test_no_floor(self):
        for text in ("0:", "1:", "2:", "61:", "99:", "2: 0-2", "61: 0-2 1-3", "0: 0-0", "99: 0-1 5-5"):
            self.assertRaises(NoFloor, read, text)

    def test_no_line(self):
        for text in ("3: 0-1", "3: 0-2", "4: 0-1", "4: 0-0", "4: 0-3", "4: 3-0", "4: 0-4", "4: 0-99", "6: 0-2 1-3 5-0",
                     "60: 0-59", "60: 0-60"):
            self.assertRaises(NoLine, read, text)

    def test_crossed(self):
        with self.assertRaises(Crossed) as taken:
            read("6: 2-0 4-0 3-1 5-3")
        self.assertEqual((taken.exception.one, taken.exception.other), ((0, 2), (1, 3)))
        with self.assertRaises(Crossed) as taken:
            read("6: 2-0 0-2")
        self.assertEqual((taken.exception.one, taken.exception.other), ((0, 2), (0, 2)))

    def test_not_full(self):
        with self.assertRaises(NotFull) as taken:
            read("5: 3-1")
        self.assertIn(taken.exception.line, ((0, 3), (1, 4)))
        self.assertRaises(NotFull, read, "4:")
        self.assertRaises(NotFull, read, "60:")


if __name__ == "__main__":
    unittest.main()
