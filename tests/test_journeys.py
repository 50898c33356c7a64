import unittest
from random import Random

from friezeyard.deeds import Mirror, Spin, TurnLine
from friezeyard.errors import FloorError, NoLine
from friezeyard.journeys import home, walked
from tests.helper import SIXTY, all_cuttings, image_of, some_cuttings, turn_over

HEXAGON = (6, ((0, 2), (0, 4), (2, 4)))


def drawn_journey(cut, many, draw):
    """Deeds that can be done, and the cuttings they lead over, reckoned apart."""
    deeds, cuts = [], [cut]
    for k in range(many):
        now, kind = cuts[-1], draw.randrange(3 if cut[1] else 2)
        if kind == 0:
            by = draw.choice((0, 1, -1, 7, -cut[0], SIXTY, -SIXTY))
            deeds.append(Spin(by))
            cuts.append(image_of(now, by % cut[0], False))
        elif kind == 1:
            deeds.append(Mirror())
            cuts.append(image_of(now, 0, True))
        else:
            line = draw.choice(now[1])
            deeds.append(TurnLine(line))
            cuts.append(turn_over(now, line)[0])
    return deeds, cuts


def journeys():
    draw = Random(35)
    for cut in [cut for n in range(3, 7) for cut in all_cuttings(n)] + some_cuttings(12) + some_cuttings(60):
        for many in (1, 2, 9):
            yield (cut,) + drawn_journey(cut, many, draw)
    for cut in ((3, ()), HEXAGON, some_cuttings(12)[3]):
        yield (cut,) + drawn_journey(cut, 150, draw)


class WalkedTest(unittest.TestCase):
    def test_a_few(self):
        deeds = [TurnLine((0, 2)), Spin(1), Mirror()]
        self.assertEqual(walked(HEXAGON, deeds),
                         [HEXAGON, (6, ((0, 4), (1, 4), (2, 4))), (6, ((1, 5), (2, 5), (3, 5))),
                          (6, ((1, 3), (1, 4), (1, 5)))])

    def test_without_deeds(self):
        for cut in ((3, ()), HEXAGON, some_cuttings(60)[0]):
            self.assertEqual(walked(cut, []), [cut])

    def test_journeys(self):
        for cut, deeds, cuts in journeys():
            self.assertEqual(walked(cut, deeds), cuts)


class HomeTest(unittest.TestCase):
    def test_a_few(self):
        told = home(HEXAGON, [TurnLine((0, 2)), Spin(2), Mirror()])
        self.assertEqual([deed.shown() for deed in told], ["mirror", "spin -2", "turn 1-4"])

    def test_without_deeds(self):
        for cut in ((3, ()), HEXAGON, some_cuttings(60)[0]):
            self.assertEqual(home(cut, []), [])

    def test_over_the_same_cuttings(self):
        for cut, deeds, cuts in journeys():
            told = home(cut, deeds)
            self.assertEqual([type(deed) for deed in told], [type(deed) for deed in reversed(deeds)])
            self.assertEqual(walked(cuts[-1], told), cuts[::-1])

    def test_home_of_the_way_home(self):
        for cut, deeds, cuts in journeys():
            again = home(cuts[-1], home(cut, deeds))
            self.assertEqual([deed.shown() for deed in again], [deed.shown() for deed in deeds])


class RefusedTest(unittest.TestCase):
    def test_what_is_no_line_on_the_way(self):
        for deeds in ([TurnLine((0, 3))], [TurnLine((0, 1))], [TurnLine((2, 0))], [TurnLine((0, 2)), TurnLine((0, 2))],
                      [Spin(1), TurnLine((0, 2))], [Mirror(), TurnLine((0, 2)), TurnLine((0, 2)), Mirror()],
                      [Spin(2), Mirror(), TurnLine((0, 6))]):
            self.assertRaises(NoLine, walked, HEXAGON, deeds)
            self.assertRaises(NoLine, home, HEXAGON, deeds)
        self.assertRaises(FloorError, walked, HEXAGON, [TurnLine((0, 3))])
        self.assertRaises(FloorError, home, HEXAGON, [TurnLine((0, 3))])

    def test_a_line_that_only_comes_on_the_way(self):
        deeds = [TurnLine((0, 2)), TurnLine((1, 4)), Spin(1), TurnLine((1, 3))]
        self.assertEqual(walked(HEXAGON, deeds)[-1], turn_over(image_of(HEXAGON, 1, False), (1, 3))[0])
        self.assertRaises(NoLine, walked, HEXAGON, deeds[1:])
        self.assertRaises(NoLine, home, HEXAGON, deeds[1:])

    def test_all_journeys_with_a_wrong_deed_behind(self):
        for cut, deeds, cuts in journeys():
            self.assertRaises(NoLine, walked, cut, deeds + [TurnLine((0, 1))])
            self.assertRaises(NoLine, home, cut, deeds + [TurnLine((0, 1)), Mirror()])


class OwnTest(unittest.TestCase):
    def test_what_is_handed_in_stays_as_it_was(self):
        deeds = [TurnLine((0, 2)), Spin(2), Mirror()]
        kept = list(deeds)
        for told in (walked(HEXAGON, deeds), home(HEXAGON, deeds)):
            self.assertIs(type(told), list)
            told.clear()
        self.assertEqual(deeds, kept)
        self.assertEqual([deed.shown() for deed in deeds], ["turn 0-2", "spin 2", "mirror"])
        self.assertEqual(len(walked(HEXAGON, deeds)), 4)
        self.assertEqual(len(home(HEXAGON, deeds)), 3)

    def test_deeds_told_are_none_of_those_handed_in(self):
        deeds = [Spin(0), Mirror(), TurnLine((0, 2))]
        told = home(HEXAGON, deeds)
        self.assertFalse([deed for deed in told if [other for other in deeds if other is deed]])


if __name__ == "__main__":
    unittest.main()
