"""What the document promises over the whole program, points 1 to 3, and the interface as it stands there."""

import inspect
import unittest
from copy import deepcopy
from importlib import import_module
from itertools import product

from friezeyard.bands import closes, entry, read_off
from friezeyard.deeds import Mirror, Spin, TurnLine
from friezeyard.desk import Desk
from friezeyard.errors import Fallen, FloorError, NoBand
from friezeyard.fractions import fraction
from friezeyard.images import mirrored, spun
from friezeyard.numbers import numbers
from friezeyard.places import at_place, count, place
from friezeyard.sharings import sharings
from friezeyard.sums import product as multiplied
from friezeyard.trails import cutting_of, trail
from friezeyard.turns import turned
from friezeyard.ways import distances, way_to
from friezeyard.yards import Yard
from tests.helper import all_cuttings, all_pairs, rows_near, some_cuttings, walk_over

HEXAGON = (6, ((0, 2), (0, 4), (2, 4)))
OTHER = (6, ((1, 3), (1, 5), (3, 5)))
ONE_SUM = [((0, 1), 2), ((1, -1), 3)]
OTHER_SUM = [((1, 0), -1), ((2, 2), 4)]
NET = [((0, 1), (1, 2), 1), ((0, 2), (0, 1), 1), ((1, 2), (0, 2), 1)]
INTERFACE = {
    "pairs": {"is_whole": "thing", "pair": "a b", "is_side": "n p", "is_line": "n p", "cross": "p other"},
    "cuttings": {"cutting": "n lines"},
    "rooms": {"rooms": "n lines", "triangles": "cut", "thirds": "cut p"},
    "texts": {"shown": "cut", "read": "text"},
    "numbers": {"numbers": "cut"},
    "trails": {"trail": "row", "cutting_of": "row"},
    "ears": {"grown": "cut at", "shorn": "cut corner"},
    "bands": {"strip": "row", "closes": "row", "entry": "cut i j", "ones": "row", "read_off": "row"},
    "spreads": {"spread": "cut corner"},
    "sharings": {"sharings": "cut i j"},
    "turns": {"turned": "cut line", "four_of": "cut line"},
    "nets": {"net_of": "cut", "overturned": "net point", "renamed": "net old new"},
    "sums": {"plus": "one other", "product": "one other", "quotient": "one other", "worth": "one values"},
    "letters": {"letters": "cut", "letter": "cut p"},
    "fractions": {"fraction": "cut p"},
    "yards": {"Yard": "first", "Yard.told": "self p", "Yard.turn": "self line"},
    "fans": {"fan": "n corner", "to_fan": "cut corner=0"},
    "ways": {"distances": "cut", "way_to": "one other"},
    "places": {"count": "n", "place": "cut", "at_place": "n k"},
    "images": {"spun": "cut by=1", "mirrored": "cut", "least_image": "cut", "keepers": "cut", "unlike": "n"},
    "deeds": {"Deed": "", "TurnLine": "line", "Spin": "by", "Mirror": "", "read_deed": "text",
              "TurnLine.done": "self cut", "TurnLine.back": "self cut", "TurnLine.shown": "self",
              "Spin.done": "self cut", "Spin.back": "self cut", "Spin.shown": "self",
              "Mirror.done": "self cut", "Mirror.back": "self cut", "Mirror.shown": "self"},
    "journeys": {"walked": "cut deeds", "home": "cut deeds"},
    "desk": {"Desk": "", "Desk.say": "self row"},
}
ASKED = (
    ("pairs", "pair", 4, 2), ("pairs", "is_side", 6, (0, 5)), ("pairs", "is_line", 6, (0, 2)),
    ("pairs", "cross", (0, 2), (1, 3)), ("pairs", "is_whole", [3]),
    ("cuttings", "cutting", 6, [(4, 2), (2, 0), (0, 4)]), ("cuttings", "cutting", 6, [(4, 2), (5, 3)]),
    ("cuttings", "cutting", 6, [(4, 2), (2, 0)]), ("rooms", "rooms", 6, [(1, 4)]), ("rooms", "rooms", 6, []),
    ("rooms", "triangles", HEXAGON), ("rooms", "thirds", HEXAGON, (0, 2)), ("rooms", "thirds", HEXAGON, (1, 3)),
    ("texts", "shown", HEXAGON), ("texts", "read", "6: 0-2 0-4 2-4"), ("texts", "read", ["6:"]),
    ("numbers", "numbers", HEXAGON), ("trails", "trail", [3, 1, 3, 1, 3, 1]), ("trails", "trail", [1, 2, 3, 4]),
    ("trails", "trail", [1, None]), ("trails", "cutting_of", [3, 1, 3, 1, 3, 1]), ("trails", "cutting_of", [2, 2, 2]),
    ("ears", "grown", HEXAGON, 2), ("ears", "shorn", HEXAGON, 1), ("ears", "shorn", HEXAGON, [1]),
    ("bands", "strip", [3, 1, 3, 1, 3, 1]), ("bands", "closes", [3, 1, 3, 1, 3, 1]), ("bands", "entry", HEXAGON, 1, 40),
    ("bands", "ones", [3, 1, 3, 1, 3, 1]), ("bands", "read_off", [3, 1, 3, 1, 3, 1]), ("bands", "read_off", [1, 2, 3]),
    ("spreads", "spread", HEXAGON, 1), ("sharings", "sharings", HEXAGON, 1, 3), ("sharings", "sharings", HEXAGON, 1, 1),
    ("turns", "turned", HEXAGON, (0, 2)), ("turns", "four_of", HEXAGON, (0, 2)), ("nets", "net_of", HEXAGON),
    ("nets", "overturned", NET, (0, 1)), ("nets", "overturned", NET, (5, 6)), ("nets", "renamed", NET, (0, 1), (5, 6)),
    ("nets", "renamed", NET, (3, 4), (5, 6)), ("sums", "plus", ONE_SUM, OTHER_SUM), ("sums", "plus", ONE_SUM, []),
    ("sums", "plus", [], ONE_SUM), ("sums", "product", ONE_SUM, OTHER_SUM), ("sums", "product", ONE_SUM, []),
    ("sums", "quotient", multiplied(ONE_SUM, OTHER_SUM), OTHER_SUM), ("sums", "quotient", ONE_SUM, [((0, 0), 1)]),
    ("sums", "quotient", [], ONE_SUM), ("sums", "quotient", ONE_SUM, OTHER_SUM), ("sums", "worth", ONE_SUM, [2, 3]),
    ("letters", "letters", HEXAGON), ("letters", "letter", HEXAGON, (0, 2)), ("fractions", "fraction", HEXAGON, (1, 3)),
    ("fans", "fan", 6, 2), ("fans", "to_fan", HEXAGON), ("fans", "to_fan", HEXAGON, 1), ("ways", "distances", HEXAGON),
    ("ways", "way_to", HEXAGON, OTHER), ("ways", "way_to", HEXAGON, HEXAGON), ("ways", "way_to", HEXAGON, (3, ())),
    ("places", "count", 6), ("places", "place", HEXAGON), ("places", "at_place", 6, 3), ("places", "at_place", 6, [3]),
    ("images", "spun", HEXAGON), ("images", "mirrored", HEXAGON), ("images", "least_image", HEXAGON),
    ("images", "keepers", HEXAGON), ("images", "unlike", 6), ("images", "unlike", [6]), ("deeds", "read_deed", ["x"]),
    ("journeys", "walked", HEXAGON, []), ("journeys", "home", HEXAGON, []),
)


def found_in(module, path):
    found = import_module("friezeyard." + module)
    for name in path.split("."):
        found = getattr(found, name)
    return found


def answer(function, things):
    """What is told, or the class and the fields of the refusal."""
    try:
        return function(*things)
    except FloorError as told:
        return type(told), sorted(vars(told).items())


def spoil(thing):
    """Whatever can be done to a list that was told."""
    if isinstance(thing, (list, tuple)):
        for part in thing:
            spoil(part)
    if isinstance(thing, list):
        thing[:] = ["spoiled"]


class InterfaceTest(unittest.TestCase):
    def test_names_and_arguments(self):
        for module, functions in INTERFACE.items():
            for path, wanted in functions.items():
                told = [str(part) for part in inspect.signature(found_in(module, path)).parameters.values()]
                self.assertEqual(told, wanted.split(), (module, path))

    def test_values_of_objects(self):
        yard = Yard(HEXAGON)
        self.assertEqual((yard.first, yard.now), (HEXAGON, HEXAGON))
        self.assertEqual((TurnLine((0, 2)).line, Spin(7).by), ((0, 2), 7))


class OwnTest(unittest.TestCase):
    def test_every_function_is_asked(self):
        asked = {(module, path) for module, path, *things in ASKED}
        for module, functions in INTERFACE.items():
            for path in [path for path in functions if path[0].islower()]:
                self.assertIn((module, path), asked)

    def test_what_is_handed_in_stays_as_it_was(self):
        for module, path, *things in ASKED:
            kept = deepcopy(things)
            answer(found_in(module, path), things)
            self.assertEqual(things, kept, (module, path))

    def test_what_is_told_and_spoiled_changes_nothing(self):
        for module, path, *things in ASKED:
            kept, function = deepcopy(things), found_in(module, path)
            first = answer(function, things)
            wanted = deepcopy(first)
            second = answer(function, things)
            self.assertEqual(second, wanted, (module, path))
            spoil(first)
            self.assertEqual(second, wanted, (module, path))
            self.assertEqual(things, kept, (module, path))
            self.assertEqual(answer(function, things), wanted, (module, path))

    def test_what_was_told_stays_when_the_things_handed_in_change(self):
        for module, path, *things in ASKED:
            handed = deepcopy(things)
            told = answer(found_in(module, path), handed)
            wanted = deepcopy(told)
            for thing in [thing for thing in handed if isinstance(thing, list)]:
                thing.append("more")
            self.assertEqual(told, wanted, (module, path))

    def test_deeds_handed_in_stay_as_they_were(self):
        deeds = [TurnLine((0, 2)), Spin(-3), Mirror()]
        for deed, text in zip(deeds, ("turn 0-2", "spin -3", "mirror")):
            for times in range(2):
                deed.done(HEXAGON)
                deed.back(HEXAGON)
                self.assertEqual(deed.shown(), text)


class PromiseTest(unittest.TestCase):
    def test_cuttings_and_rows_lead_to_each_other(self):
        for cut in [cut for n in range(3, 8) for cut in all_cuttings(n)] + some_cuttings(60):
            self.assertEqual(cutting_of(numbers(cut)), cut)
            self.assertEqual(read_off(numbers(cut)), cut)

    def test_a_row_is_a_cuttings_just_where_its_band_closes(self):
        rows = [list(row) for n in (3, 4, 5) for row in product(range(-1, 5), repeat=n)]
        rows += [row for cut in some_cuttings(20) for row in rows_near(numbers(cut))]
        for row in rows:
            fell = trail(row)[1]
            self.assertEqual(closes(row), fell is None)
            if fell is not None:
                self.assertEqual(answer(cutting_of, [row]), (Fallen, [("corner", fell)]))
                self.assertRaises(NoBand, read_off, row)

    def test_the_band_counts_sharings_and_terms(self):
        for cut in [cut for n in range(3, 7) for cut in all_cuttings(n)] + some_cuttings(9):
            for a, b in all_pairs(cut[0]):
                self.assertEqual(entry(cut, a, b), len(sharings(cut, a, b)))
                self.assertEqual(entry(cut, a, b), entry(cut, b, a + cut[0]))
                self.assertEqual(entry(cut, a, b), sum(times for powers, times in fraction(cut, (a, b))))

    def test_whatever_turnings_lead_there_the_fractions_are_the_same(self):
        first = some_cuttings(7)[3]
        for end in all_cuttings(7)[::4]:
            for middle in all_cuttings(7)[::9]:
                yard = Yard(first)
                for line in way_to(first, middle) + way_to(middle, end):
                    yard.turn(line)
                self.assertEqual(yard.now, end)
                for line in end[1]:
                    self.assertEqual(yard.told(line), fraction(first, line))

    def test_ways_are_as_short_as_any(self):
        for one in all_cuttings(6):
            for other, number in distances(one):
                self.assertEqual(len(way_to(one, other)), number)
                self.assertEqual(walk_over(one, way_to(one, other))[0][-1], other)

    def test_all_cuttings_are_numbered_spun_and_mirrored(self):
        for n in range(3, 8):
            cuts = [at_place(n, k) for k in range(count(n))]
            self.assertEqual(sorted(cuts), sorted(all_cuttings(n)))
            for change in (spun, mirrored):
                self.assertEqual(sorted(place(change(cut)) for cut in cuts), list(range(count(n))))

    def test_turning_a_line_twice_is_nothing(self):
        for cut in all_cuttings(7):
            for line in cut[1]:
                self.assertEqual(turned(*turned(cut, line)), (cut, line))

    def test_the_same_rows_are_always_answered_alike(self):
        rows = ("floor a 6: 0-2 0-4 2-4", "turn a 0-2", "fraction a 1-4", "spin b a 2", "lead a b", "alike a b",
                "undo a", "show a", "numbers a", "place a", "band a 1 4", "ways a 1 4", "mirror c b", "sow d 1 2 1 2",
                "show d")
        one, other = Desk(), Desk()
        self.assertEqual([one.say(row) for row in rows], [other.say(row) for row in rows])


if __name__ == "__main__":
    unittest.main()
