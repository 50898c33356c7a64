import unittest

from friezeyard.deeds import Deed, Mirror, Spin, TurnLine, read_deed
from friezeyard.errors import FloorError, NoDeed, NoLine
from tests.helper import SIXTY, all_cuttings, image_of, no_pairs_of, some_cuttings, turn_over

HEXAGON = (6, ((0, 2), (0, 4), (2, 4)))
CUTS = [cut for n in range(3, 8) for cut in all_cuttings(n)] + some_cuttings(12) + some_cuttings(60)
NUMBERS = (0, 1, -1, 5, -6, 59, 60, 1000, -1000, SIXTY, -SIXTY, 10 ** 59)


class DoneTest(unittest.TestCase):
    def test_a_line_turned(self):
        self.assertEqual(TurnLine((0, 2)).done(HEXAGON), (6, ((0, 4), (1, 4), (2, 4))))
        for cut in CUTS:
            for line in cut[1]:
                self.assertEqual(TurnLine(line).done(cut), turn_over(cut, line)[0])

    def test_a_spin(self):
        self.assertEqual(Spin(1).done(HEXAGON), (6, ((1, 3), (1, 5), (3, 5))))
        for cut in CUTS:
            for by in NUMBERS:
                self.assertEqual(Spin(by).done(cut), image_of(cut, by % cut[0], False))

    def test_a_mirroring(self):
        self.assertEqual(Mirror().done((6, ((0, 2), (2, 5), (3, 5)))), (6, ((0, 4), (1, 3), (1, 4))))
        for cut in CUTS:
            self.assertEqual(Mirror().done(cut), image_of(cut, 0, True))

    def test_a_deed_is_done_again_and_to_other_cuttings(self):
        deed = TurnLine((0, 2))
        for times in range(2):
            self.assertEqual(deed.done(HEXAGON), (6, ((0, 4), (1, 4), (2, 4))))
            self.assertEqual(deed.done((4, ((0, 2),))), (4, ((1, 3),)))
        self.assertEqual(deed.line, (0, 2))


class BackTest(unittest.TestCase):
    def test_of_a_line_turned(self):
        for cut in CUTS:
            for line in cut[1]:
                deed = TurnLine(line)
                back = deed.back(cut)
                self.assertIsInstance(back, TurnLine)
                self.assertEqual(back.line, turn_over(cut, line)[1])
                self.assertEqual(back.done(deed.done(cut)), cut)
                self.assertEqual(deed.line, line)

    def test_of_a_spin(self):
        for cut in CUTS[::10]:
            for by in NUMBERS:
                deed = Spin(by)
                back = deed.back(cut)
                self.assertIsInstance(back, Spin)
                self.assertEqual((deed.by, back.by), (by, -by))
                self.assertEqual(back.done(deed.done(cut)), cut)

    def test_of_a_mirroring(self):
        for cut in CUTS:
            back = Mirror().back(cut)
            self.assertIsInstance(back, Mirror)
            self.assertEqual(back.done(Mirror().done(cut)), cut)

    def test_what_is_no_line_is_refused_done_and_asked_for_its_back(self):
        for cut in [(3, ()), (4, ((0, 2),)), HEXAGON, some_cuttings(60)[0]]:
            for p in no_pairs_of(cut[0], cut[1]):
                deed = TurnLine(p)
                self.assertRaises(NoLine, deed.done, cut)
                self.assertRaises(NoLine, deed.back, cut)
                self.assertEqual(deed.line, p)
        self.assertRaises(FloorError, TurnLine((2, 0)).done, HEXAGON)


class MadeTest(unittest.TestCase):
    def test_all_are_deeds(self):
        for deed in (TurnLine((0, 2)), Spin(3), Mirror()):
            self.assertIsInstance(deed, Deed)
            self.assertIs(type(deed).__base__, Deed)
        self.assertIsInstance(Deed(), Deed)

    def test_making_one_refuses_nothing(self):
        for two in ((0, 2), (2, 0), (3, 3), (-1, 70), (SIXTY, -SIXTY)):
            self.assertEqual(TurnLine(two).line, two)
        for by in NUMBERS:
            self.assertEqual(Spin(by).by, by)


class ShownTest(unittest.TestCase):
    def test_a_few(self):
        self.assertEqual(TurnLine((0, 2)).shown(), "turn 0-2")
        self.assertEqual(TurnLine((10, 59)).shown(), "turn 10-59")
        self.assertEqual([Spin(by).shown() for by in (0, 3, -3, 100)], ["spin 0", "spin 3", "spin -3", "spin 100"])
        self.assertEqual(Mirror().shown(), "mirror")

    def test_what_is_shown_is_read_back(self):
        for a in range(100):
            for b in (a + 1, a + 40, 99):
                if a < b < 100:
                    deed = read_deed(TurnLine((a, b)).shown())
                    self.assertIs(type(deed), TurnLine)
                    self.assertEqual(deed.line, (a, b))
        for by in NUMBERS:
            deed = read_deed(Spin(by).shown())
            self.assertIs(type(deed), Spin)
            self.assertEqual(deed.by, by)
        self.assertIs(type(read_deed(Mirror().shown())), Mirror)


class ReadTest(unittest.TestCase):
    def test_either_number_first(self):
        for text, line in (("turn 2-0", (0, 2)), ("turn 0-2", (0, 2)), ("turn 99-0", (0, 99)), ("turn 10-9", (9, 10))):
            self.assertEqual(read_deed(text).line, line)

    def test_numbers_of_up_to_sixty_figures(self):
        for by in (0, 7, -7, 10, -10, SIXTY, -SIXTY, 10 ** 59, -10 ** 59):
            self.assertEqual(read_deed("spin " + str(by)).by, by)

    def test_what_is_no_text(self):
        for thing in (None, True, 0, 3, (), [], {}, ["mirror"], ("turn", (0, 2)), b"mirror", 1.0, object(), Mirror(),
                      Spin(1), TurnLine((0, 2))):
            self.assertRaises(NoDeed, read_deed, thing)
        self.assertRaises(FloorError, read_deed, None)

    def test_other_words(self):
        for text in ("", " ", "turn", "spin", "mirrored", "Mirror", "MIRROR", "mirro", "Turn 0-2", "Spin 1",
                     "turned 0-2", "0-2", "1", "undo", "show", "mirror turn", "0-2 turn", "turnspin 1", "deed",
                     "turn0-2", "spin1"):
            self.assertRaises(NoDeed, read_deed, text)

    def test_blanks_and_words_too_many(self):
        for text in (" turn 0-2", "turn  0-2", "turn 0-2 ", "turn 0 -2", "turn 0- 2", "turn ", "turn 0-2 1-3",
                     " spin 1", "spin  1", "spin 1 ", "spin ", "spin 1 2", "spin - 1", "mirror ", " mirror",
                     "mirror 0", "mirror  ", "turn\t0-2", "spin\n1", "spin 1\n", "mirror\n", "\nmirror",
                     "turn 0-2\n", "turn 0\n-2"):
            self.assertRaises(NoDeed, read_deed, text)

    def test_pairs_that_are_not_so_written(self):
        for two in ("0", "0-", "-2", "-", "--", "0--2", "0-2-4", "-0-2", "0-2-", "+0-2", "0-+2", "0:2", "0,2", "(0,2)",
                    "a-b", "0-b", "1_0-2", "0-1_2", "0x1-2", "0.0-2", "00-2", "0-02", "01-2", "1-02", "100-2", "2-100",
                    "000-1", "999-100", "2-2", "0-0", "59-59"):
            self.assertRaises(NoDeed, read_deed, "turn " + two)

    def test_numbers_that_are_not_so_written(self):
        for number in ("-0", "-", "--1", "+1", "01", "-01", "00", "-00", "1-", "1-2", "a", "1a", "1_0", "1.0", "0x1",
                       "1e3", "(1)", str(SIXTY + 1), str(-SIXTY - 1), "9" * 61, "-" + "9" * 61, "0" * 60, "1" * 200,
                       "0-2"):
            self.assertRaises(NoDeed, read_deed, "spin " + number)

    def test_each_deed_read_is_a_new_one(self):
        one, other = read_deed("spin 2"), read_deed("spin 2")
        one.by = 5
        self.assertEqual(other.by, 2)
        self.assertEqual(read_deed("spin 2").by, 2)


if __name__ == "__main__":
    unittest.main()
