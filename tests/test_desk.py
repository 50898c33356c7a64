import unittest
from copy import deepcopy
from itertools import product
from random import Random

from friezeyard.bands import entry
from friezeyard.desk import Desk
from friezeyard.errors import (Crossed, Fallen, FloorError, NoCorner, NoDeed, NoFloor, NoLine, NoName, NoRow, NoText,
                               NotAlike, NotFull, NoTurn, TooMany)
from friezeyard.fractions import fraction
from friezeyard.places import place
from friezeyard.sharings import sharings
from friezeyard.texts import read, shown
from tests.helper import (SIXTY, all_cuttings, all_pairs, drawn_cutting, fan_lines, image_of,
                          numbers_by_the_words, sides_of, some_cuttings, turn_over, walk_over)

HEXAGON = "6: 0-2 0-4 2-4"
THIRTY = 10 ** 30 - 1
NAMES = ("a", "b", "hexagon", "abcdefgh", "z")
NO_NAMES = ("", "A", "Hexagon", "abcdefghi", "a1", "1", "0", "a-b", "a_b", "-", "0-2", "a\n", "\na", "a\t", "3:")
ROWS = ("floor a 3:", "sow a 1 1 1", "show a", "numbers a", "place a", "turn a 0-2", "undo a", "spin b a 1",
        "mirror b a", "band a 0 1", "ways a 0 1", "fraction a 0-1", "lead a a", "alike a a")


def desk_of(**floors):
    desk = Desk()
    for name, text in floors.items():
        desk.say(f"floor {name} {text}")
    return desk


def history(desk, name):
    """The texts of the floor's cuttings, from now back to its first one; nothing where no floor has the name."""
    copy, found = deepcopy(desk), []
    try:
        while True:
            found.append(copy.say("show " + name))
            copy.say("undo " + name)
    except (NoName, NoTurn):
        return found


def state(desk):
    return [history(desk, name) for name in NAMES]


class DeskCase(unittest.TestCase):
    def refused(self, error, desk, row):
        ahead = state(desk)
        try:
            desk.say(row)
        except FloorError as told:
            self.assertIs(type(told), error, row)
        else:
            self.fail(f"not refused: {row!r}")
        self.assertEqual(state(desk), ahead, row)


class FloorTest(DeskCase):
    def test_a_floor_is_told_and_shown(self):
        desk = Desk()
        self.assertEqual(desk.say("floor a " + HEXAGON), "ok")
        self.assertEqual(desk.say("show a"), HEXAGON)

    def test_lines_in_any_order_and_either_corner_first(self):
        desk = Desk()
        self.assertEqual(desk.say("floor hexagon 6: 4-2 2-0 0-4"), "ok")
        self.assertEqual(desk.say("show hexagon"), HEXAGON)

    def test_three_and_sixty_corners(self):
        desk = desk_of(a="3:", b=shown(some_cuttings(60)[3]))
        self.assertEqual(desk.say("show a"), "3:")
        self.assertEqual(desk.say("show b"), shown(some_cuttings(60)[3]))

    def test_all_cuttings_of_small_floors(self):
        desk = Desk()
        for cut in [cut for n in range(3, 8) for cut in all_cuttings(n)]:
            self.assertEqual(desk.say("floor a " + shown(cut)), "ok")
            self.assertEqual(desk.say("show a"), shown(cut))

    def test_texts_that_are_refused(self):
        desk = desk_of(a=HEXAGON)
        desk.say("turn a 0-2")
        for name in ("a", "b"):
            for text in ("", " ", "3", "3: ", " 3:", "6:  0-2 0-4 2-4", "6: 0-2 0-4 2-4 ", "6: 0-2 0-4 2", "03:", "x"):
                self.refused(NoText, desk, f"floor {name} {text}")
            for text in ("2:", "0:", "61:", "99: 0-2"):
                self.refused(NoFloor, desk, f"floor {name} {text}")
            for text in ("3: 0-1", "6: 0-1 0-4 2-4", "6: 0-2 0-6 2-4", "6: 3-3"):
                self.refused(NoLine, desk, f"floor {name} {text}")
            self.refused(Crossed, desk, f"floor {name} 6: 0-2 1-3 2-4")
            self.refused(Crossed, desk, f"floor {name} 6: 0-2 2-0 2-4")
            self.refused(NotFull, desk, f"floor {name} 6: 0-2 0-4")
            self.refused(NotFull, desk, f"floor {name} 4:")

    def test_a_floor_told_anew_takes_the_place_of_the_old_one(self):
        desk = desk_of(a=HEXAGON)
        desk.say("turn a 0-2")
        self.assertEqual(desk.say("floor a 4: 0-2"), "ok")
        self.assertEqual(history(desk, "a"), ["4: 0-2"])
        self.refused(NoTurn, desk, "undo a")
        self.assertEqual(desk.say("fraction a 0-2"), "1*0-2")

    def test_two_desks_and_two_floors(self):
        one, other = desk_of(a=HEXAGON, b=HEXAGON), Desk()
        one.say("turn a 0-2")
        self.assertEqual(one.say("show b"), HEXAGON)
        self.assertRaises(NoName, other.say, "show a")


class SowTest(DeskCase):
    def test_a_row_is_sown(self):
        desk = Desk()
        self.assertEqual(desk.say("sow a 3 1 3 1 3 1"), "ok")
        self.assertEqual(desk.say("show a"), HEXAGON)
        self.assertEqual(desk.say("sow b 1 1 1"), "ok")
        self.assertEqual(desk.say("show b"), "3:")

    def test_all_cuttings_of_small_floors_and_sixty_corners(self):
        desk = Desk()
        for cut in [cut for n in range(3, 8) for cut in all_cuttings(n)] + some_cuttings(60)[2:]:
            row = " ".join(str(number) for number in numbers_by_the_words(*cut))
            self.assertEqual(desk.say("sow a " + row), "ok")
            self.assertEqual(desk.say("numbers a"), row)
            self.assertEqual(desk.say("show a"), shown(cut))

    def test_rows_that_fall(self):
        desk = desk_of(a=HEXAGON)
        for numbers, corner in (("1 1 2", 2), ("2 2 2", 0), ("0 1 1", 0), ("1 1 -1", 2), ("1 2 2 2", 2)):
            for name in ("a", "b"):
                self.refused(Fallen, desk, f"sow {name} {numbers}")
                with self.assertRaises(Fallen) as told:
                    desk.say(f"sow {name} {numbers}")
                self.assertEqual(told.exception.corner, corner)

    def test_too_few_and_too_many_numbers_are_no_row(self):
        desk = desk_of(a=HEXAGON)
        for numbers in ("1", "1 1", "0", "-5 7", " ".join(["1"] * 61), " ".join(["2"] * 90)):
            for name in ("a", "b"):
                self.refused(NoRow, desk, f"sow {name} {numbers}")

    def test_numbers_of_at_most_thirty_figures(self):
        desk = desk_of(a=HEXAGON)
        for number in (THIRTY, -THIRTY, 10 ** 29):
            self.refused(Fallen, desk, f"sow a 1 1 {number}")
            self.refused(Fallen, desk, f"sow b {number} 1 1")
            self.refused(NoRow, desk, f"sow a {number}")
        for number in (THIRTY + 1, -THIRTY - 1, SIXTY, "1" * 31, "-" + "1" * 31, "9" * 61, "0" * 30):
            self.refused(NoDeed, desk, f"sow a 1 1 {number}")
            self.refused(NoDeed, desk, f"sow b {number} 1 1")

    def test_sown_onto_its_own_name(self):
        desk = desk_of(a=HEXAGON)
        desk.say("turn a 0-2")
        self.assertEqual(desk.say("sow a 1 2 1 2"), "ok")
        self.assertEqual(history(desk, "a"), ["4: 1-3"])


class AskedTest(DeskCase):
    def test_numbers(self):
        desk = desk_of(a=HEXAGON, b="3:")
        self.assertEqual(desk.say("numbers a"), "3 1 3 1 3 1")
        self.assertEqual(desk.say("numbers b"), "1 1 1")
        desk.say("turn a 0-2")
        self.assertEqual(desk.say("numbers a"), "2 2 2 1 4 1")

    def test_places(self):
        desk = desk_of(a=HEXAGON, b="3:", z=shown((60, fan_lines(60, 0))))
        self.assertEqual(desk.say("place b"), "0")
        self.assertEqual(desk.say("place z"), "104088460289122304033498318812079")
        self.assertEqual(desk.say("place a"), str(place(read(HEXAGON))))
        desk.say("turn a 0-2")
        self.assertEqual(desk.say("place a"), str(place((6, ((0, 4), (1, 4), (2, 4))))))

    def test_band(self):
        desk = desk_of(a=HEXAGON)
        for i, j in product(range(-8, 15), repeat=2):
            self.assertEqual(desk.say(f"band a {i} {j}"), str(entry(read(HEXAGON), i, j)))
        self.assertEqual([desk.say("band a 1 4"), desk.say("band a 4 1"), desk.say("band a 3 3")], ["2", "-2", "0"])
        desk.say("turn a 0-2")
        self.assertEqual(desk.say("band a 1 4"), "1")

    def test_band_of_numbers_of_sixty_figures(self):
        desk = desk_of(a=HEXAGON)
        for i, j in product((SIXTY, -SIXTY, 10 ** 59, 0), repeat=2):
            self.assertEqual(desk.say(f"band a {i} {j}"), str(entry(read(HEXAGON), i, j)))
        for number in (SIXTY + 1, -SIXTY - 1, "9" * 61, "-0", "01", "", "+1", "1-2", "a"):
            self.refused(NoDeed, desk, f"band a {number} 0")
            self.refused(NoDeed, desk, f"band a 0 {number}")

    def test_ways(self):
        desk = desk_of(a=HEXAGON, b="3:", z=shown(some_cuttings(12)[3]))
        self.assertEqual([desk.say("ways a 1 4"), desk.say("ways a 4 1"), desk.say("ways a 2 2")], ["2", "2", "0"])
        self.assertEqual(desk.say("ways b 0 1"), "1")
        for i, j in all_pairs(12):
            self.assertEqual(desk.say(f"ways z {i} {j}"), str(len(sharings(some_cuttings(12)[3], i, j))))
        desk.say("turn a 0-2")
        self.assertEqual(desk.say("ways a 1 4"), "1")

    def test_ways_refused(self):
        desk = desk_of(a=HEXAGON, b=shown(some_cuttings(13)[0]))
        for number in (-1, 6, 100, SIXTY, -SIXTY):
            self.refused(NoCorner, desk, f"ways a {number} 0")
            self.refused(NoCorner, desk, f"ways a 0 {number}")
        self.refused(TooMany, desk, "ways b 0 1")
        self.refused(TooMany, desk, "ways b 12 12")
        self.refused(NoCorner, desk, "ways b 13 0")
        self.refused(NoCorner, desk, "ways b 0 -1")
        for number in (SIXTY + 1, "9" * 61, "-0", "00", ""):
            self.refused(NoDeed, desk, f"ways a {number} 0")
            self.refused(NoDeed, desk, f"ways a 0 {number}")


class TurnTest(DeskCase):
    def test_turn_and_undo(self):
        desk = desk_of(a=HEXAGON)
        self.assertEqual(desk.say("turn a 0-2"), "1-4")
        self.assertEqual(desk.say("show a"), "6: 0-4 1-4 2-4")
        self.assertEqual(desk.say("turn a 4-0"), "1-5")
        self.assertEqual(desk.say("undo a"), "0-4")
        self.assertEqual(desk.say("undo a"), "0-2")
        self.assertEqual(desk.say("show a"), HEXAGON)
        self.refused(NoTurn, desk, "undo a")
        self.refused(NoTurn, desk, "undo a")

    def test_no_turning_at_first(self):
        desk = desk_of(a=HEXAGON, b="3:")
        self.refused(NoTurn, desk, "undo a")
        self.refused(NoTurn, desk, "undo b")

    def test_a_turning_back_is_a_turning(self):
        desk = desk_of(a="4: 0-2")
        self.assertEqual([desk.say("turn a 0-2"), desk.say("turn a 1-3")], ["1-3", "0-2"])
        self.assertEqual([desk.say("undo a"), desk.say("undo a")], ["1-3", "0-2"])
        self.refused(NoTurn, desk, "undo a")

    def test_turnings_behind_an_undo(self):
        desk = desk_of(a=HEXAGON)
        self.assertEqual([desk.say("turn a 0-2"), desk.say("undo a"), desk.say("turn a 2-4")], ["1-4", "0-2", "0-3"])
        self.assertEqual(history(desk, "a"), ["6: 0-2 0-3 0-4", HEXAGON])

    def test_long_walks(self):
        draw = Random(37)
        for first in [(6, ((0, 2), (0, 4), (2, 4)))] + some_cuttings(12)[:2] + some_cuttings(60)[3:4]:
            desk, cuts, gone = desk_of(a=shown(first)), [first], []
            for k in range(30):
                if len(cuts) > 1 and draw.randrange(3) == 0:
                    cuts.pop()
                    self.assertEqual(desk.say("undo a"), "{}-{}".format(*gone.pop()))
                else:
                    line = draw.choice(cuts[-1][1])
                    now, new = turn_over(cuts[-1], line)
                    cuts.append(now)
                    gone.append(line)
                    self.assertEqual(desk.say("turn a {}-{}".format(*line)), "{}-{}".format(*new))
                self.assertEqual(desk.say("show a"), shown(cuts[-1]))
            self.assertEqual(history(desk, "a"), [shown(cut) for cut in reversed(cuts)])

    def test_what_is_no_line_of_now(self):
        desk = desk_of(a=HEXAGON, b="3:")
        for p in ("0-1", "1-3", "0-5", "5-0", "0-6", "2-6", "98-99", "0-3"):
            self.refused(NoLine, desk, "turn a " + p)
            self.refused(NoLine, desk, "turn b " + p)
        desk.say("turn a 0-2")
        self.refused(NoLine, desk, "turn a 0-2")

    def test_pairs_that_are_not_so_written(self):
        desk = desk_of(a=HEXAGON)
        for p in ("0-0", "2-2", "0", "0-", "-2", "0--2", "-0-2", "00-2", "0-02", "0-100", "100-0", "0:2", "(0,2)",
                  "", "x", "0-2-4", "0-2\n", "1"):
            self.refused(NoDeed, desk, "turn a " + p)
            self.refused(NoDeed, desk, "fraction a " + p)


class ImageTest(DeskCase):
    def test_spin(self):
        desk = desk_of(a=HEXAGON)
        self.assertEqual(desk.say("spin b a 1"), "ok")
        self.assertEqual(desk.say("show b"), "6: 1-3 1-5 3-5")
        self.assertEqual(desk.say("show a"), HEXAGON)

    def test_spin_by_any_number(self):
        cut = some_cuttings(12)[4]
        desk = desk_of(a=shown(cut))
        for by in (0, 1, -1, 11, 12, -13, SIXTY, -SIXTY, 10 ** 59):
            self.assertEqual(desk.say(f"spin b a {by}"), "ok")
            self.assertEqual(desk.say("show b"), shown(image_of(cut, by % 12, False)))
        for by in (SIXTY + 1, -SIXTY - 1, "9" * 61, "-0", "01", "", "+1", "x", "0-2"):
            self.refused(NoDeed, desk, f"spin b a {by}")
            self.refused(NoDeed, desk, f"spin z a {by}")

    def test_mirror(self):
        desk = desk_of(a="6: 0-2 2-5 3-5")
        self.assertEqual(desk.say("mirror b a"), "ok")
        self.assertEqual(desk.say("show b"), "6: 0-4 1-3 1-4")
        self.assertEqual(desk.say("show a"), "6: 0-2 2-5 3-5")

    def test_it_is_the_cutting_now_and_has_no_turnings(self):
        for row, by, over in (("spin b a 2", 2, False), ("mirror b a", 0, True), ("spin a a 2", 2, False),
                              ("mirror a a", 0, True)):
            desk = desk_of(a=HEXAGON, b="4: 0-2")
            desk.say("turn a 0-2")
            desk.say("turn b 0-2")
            wanted = image_of((6, ((0, 4), (1, 4), (2, 4))), by, over)
            self.assertEqual(desk.say(row), "ok")
            self.assertEqual(history(desk, row.split(" ")[1]), [shown(wanted)])
            line = wanted[1][0]
            self.assertEqual(desk.say("fraction {} {}-{}".format(row.split(" ")[1], *line)), "1*{}-{}".format(*line))

    def test_turnings_of_the_old_floor_and_the_new_one(self):
        desk = desk_of(a=HEXAGON)
        desk.say("spin b a 0")
        desk.say("turn b 0-2")
        self.assertEqual(desk.say("show a"), HEXAGON)
        self.refused(NoTurn, desk, "undo a")
        desk.say("turn a 2-4")
        self.assertEqual(history(desk, "b"), ["6: 0-4 1-4 2-4", HEXAGON])


class FractionTest(DeskCase):
    def test_as_point_37_shows(self):
        desk = desk_of(a="4: 0-2")
        desk.say("turn a 0-2")
        self.assertEqual(desk.say("fraction a 1-3"), "1*0-2^-1*0-3*1-2 + 1*0-1*0-2^-1*2-3")
        self.assertEqual(desk.say("fraction a 3-1"), "1*0-2^-1*0-3*1-2 + 1*0-1*0-2^-1*2-3")
        self.assertEqual(desk.say("fraction a 0-1"), "1*0-1")
        self.refused(NoLine, desk, "fraction a 0-2")
        desk.say("undo a")
        self.assertEqual(desk.say("fraction a 0-2"), "1*0-2")
        self.refused(NoLine, desk, "fraction a 1-3")

    def test_letters_and_three_corners(self):
        desk = desk_of(a=HEXAGON, b="3:")
        for p in ("0-1", "0-5", "4-5", "0-2", "2-4"):
            self.assertEqual(desk.say("fraction a " + p), "1*" + p)
        self.assertEqual(desk.say("fraction b 2-0"), "1*0-2")

    def test_three_turnings(self):
        desk = desk_of(a="6: 0-2 0-3 0-4")
        for line in ("0-3", "0-4", "0-2"):
            desk.say("turn a " + line)
        found = desk.say("show a").split(" ")[1:]
        texts = [desk.say("fraction a " + p) for p in found]
        self.assertEqual(texts, [self.written((6, ((0, 2), (0, 3), (0, 4))), p) for p in found])

    def written(self, first, word):
        """Point 37, word by word."""
        pairs = sorted(sides_of(first[0]) + list(first[1]))
        terms = []
        for powers, times in fraction(first, tuple(int(part) for part in word.split("-"))):
            text = str(times)
            for (a, b), power in zip(pairs, powers):
                text += {0: "", 1: f"*{a}-{b}"}.get(power, f"*{a}-{b}^{power}")
            terms.append(text)
        return " + ".join(terms)

    def test_all_sides_and_lines_along_walks(self):
        draw = Random(26)
        for first in all_cuttings(5) + all_cuttings(6)[::3] + some_cuttings(8) + some_cuttings(12):
            desk, now = desk_of(a=shown(first)), first
            for k in range(2 * first[0]):
                line = draw.choice(now[1])
                now = turn_over(now, line)[0]
                desk.say("turn a {}-{}".format(*line))
            for a, b in sides_of(first[0]) + list(now[1]):
                self.assertEqual(desk.say(f"fraction a {a}-{b}"), self.written(first, f"{a}-{b}"))

    def test_what_is_no_side_or_line_of_now(self):
        desk = desk_of(a=HEXAGON)
        for p in ("1-3", "0-3", "3-0", "0-6", "5-6", "98-99"):
            self.refused(NoLine, desk, "fraction a " + p)

    def test_above_twelve_corners_are_too_many_but_no_line_goes_ahead(self):
        for n in (13, 60):
            desk = desk_of(a=shown((n, fan_lines(n, 0))))
            desk.say("turn a 0-2")
            for p in ("0-1", "1-3", f"0-{n - 1}", "5-0"):
                self.refused(TooMany, desk, "fraction a " + p)
            for p in ("0-2", "2-4", f"0-{n}", f"1-{n - 1}"):
                self.refused(NoLine, desk, "fraction a " + p)


class LeadTest(DeskCase):
    def check(self, one, other):
        desk = desk_of(a=shown(one), b=shown(other))
        told = desk.say("lead a b")
        way = [tuple(int(part) for part in word.split("-")) for word in told.split(" ")] if told else []
        self.assertEqual(walk_over(one, way)[0][-1], other)
        self.assertTrue(all(a < b for a, b in way))
        for line in way:
            desk.say("turn a {}-{}".format(*line))
        self.assertEqual(desk.say("show a"), desk.say("show b"))
        self.assertEqual(desk.say("lead a b"), "")

    def test_ways(self):
        for one, other in product(all_cuttings(5), repeat=2):
            self.check(one, other)
        draw = Random(31)
        for n in (6, 8, 9, 12, 60):
            self.check(drawn_cutting(n, draw), drawn_cutting(n, draw))

    def test_one_turning_and_none(self):
        desk = desk_of(a="4: 0-2", b="4: 1-3")
        self.assertEqual([desk.say("lead a b"), desk.say("lead b a")], ["0-2", "1-3"])
        self.assertEqual([desk.say("lead a a"), desk.say("lead b b")], ["", ""])

    def test_it_leads_between_the_cuttings_now_and_turns_nothing(self):
        desk = desk_of(a=HEXAGON, b=HEXAGON)
        desk.say("turn a 0-2")
        ahead = state(desk)
        self.assertEqual([desk.say("lead a b"), desk.say("lead b a")], ["1-4", "0-2"])
        self.assertEqual(state(desk), ahead)

    def test_unlike_floors(self):
        desk = desk_of(a=HEXAGON, b="4: 0-2", z="3:")
        for one, other in ("ab", "ba", "az", "zb"):
            self.refused(NotAlike, desk, f"lead {one} {other}")


class AlikeTest(DeskCase):
    def wanted(self, one, other):
        for over in (False, True):
            for by in range(one[0]):
                if image_of(one, by, over) == other:
                    return ("mirror " if over else "") + f"spin {by}"
        return "no"

    def test_a_few(self):
        desk = desk_of(a="6: 0-2 2-5 3-5")
        desk.say("mirror b a")
        desk.say("spin z a 1")
        self.assertEqual(desk.say("alike a z"), "spin 1")
        self.assertEqual(desk.say("alike z a"), "spin 2")
        self.assertEqual(desk.say("alike a a"), "spin 0")
        self.assertEqual(desk.say("alike a b"), "mirror spin 0")
        self.assertEqual(desk.say("alike b z"), "mirror spin 1")
        desk.say("floor b " + HEXAGON)
        self.assertEqual([desk.say("alike a b"), desk.say("alike b a")], ["no", "no"])

    def test_all_cuttings_to_seven_corners(self):
        for n in range(3, 8):
            cuts = all_cuttings(n)
            for one, other in product(cuts[::1 if n < 7 else 5], cuts):
                desk = desk_of(a=shown(one), b=shown(other))
                self.assertEqual(desk.say("alike a b"), self.wanted(one, other))

    def test_great_floors(self):
        draw = Random(33)
        for n in (12, 59, 60):
            cut = drawn_cutting(n, draw)
            for by, over in ((0, False), (n - 1, False), (5, True), (0, True)):
                desk = desk_of(a=shown(cut), b=shown(image_of(cut, by, over)))
                self.assertEqual(desk.say("alike a b"), self.wanted(cut, image_of(cut, by, over)))

    def test_unlike_floors_are_not_alike(self):
        desk = desk_of(a="3:", b="4: 0-2", z=HEXAGON)
        for one, other in ("ab", "ba", "az", "za", "bz"):
            self.assertEqual(desk.say(f"alike {one} {other}"), "no")

    def test_it_is_asked_of_the_cuttings_now(self):
        desk = desk_of(a=HEXAGON, b=HEXAGON)
        desk.say("turn a 0-2")
        self.assertEqual(desk.say("alike a b"), "no")
        desk.say("turn b 2-4")
        wanted = self.wanted((6, ((0, 4), (1, 4), (2, 4))), (6, ((0, 2), (0, 3), (0, 4))))
        self.assertEqual(desk.say("alike a b"), wanted)


class NoDeedTest(DeskCase):
    def test_what_is_no_text(self):
        desk = desk_of(a=HEXAGON)
        for thing in (None, True, 0, 3, (), [], {}, ["show", "a"], ("show", "a"), b"show a", 1.0, object(), desk):
            self.refused(NoDeed, desk, thing)

    def test_first_words_that_are_none(self):
        desk = desk_of(a=HEXAGON)
        for row in ("", " ", "  ", "a", "Show a", "SHOW a", "shows a", "sho a", "told a", "say a", "keep a", "0-2",
                    "ok", "new a", " show a", "show\ta", "show\na", "undone a", "number a", "fractions a 0-1",
                    "Floor a 3:", "floors a 3:", "-", "3:", "answer a", "kept a", "quit", "help"):
            self.refused(NoDeed, desk, row)

    def test_too_few_words(self):
        desk = desk_of(a=HEXAGON, b=HEXAGON)
        for row in ROWS:
            words = row.split(" ")
            for many in range(1, min(len(words), 3 if words[0] == "sow" else 9)):
                self.refused(NoDeed, desk, " ".join(words[:many]))

    def test_too_many_words(self):
        desk = desk_of(a=HEXAGON, b=HEXAGON)
        for row in ROWS[2:]:
            for more in ("", "a", "0", "0-1", "0 0"):
                self.refused(NoDeed, desk, f"{row} {more}")

    def test_words_without_signs(self):
        desk = desk_of(a=HEXAGON, b=HEXAGON)
        for row in ROWS[2:]:
            for place_of in [k for k, sign in enumerate(row) if sign == " "]:
                self.refused(NoDeed, desk, row[:place_of] + " " + row[place_of:])
            self.refused(NoDeed, desk, " " + row)
        self.refused(NoDeed, desk, " floor a 3:")
        self.refused(NoDeed, desk, " sow a 1 1 1")
        for row in ("sow a ", "sow a  1 1 1", "sow a 1  1 1", "sow a 1 1 1 ", "sow  1 1 1 "):
            self.refused(NoDeed, desk, row)

    def test_numbers_that_are_not_so_written(self):
        desk = desk_of(a=HEXAGON)
        for number in ("-0", "01", "-01", "00", "+1", "--1", "-", "1-", "1.0", "a", "1a", "1_0", "0x1", "0-2", "1\n"):
            for row in ("sow a {} 1 1", "sow a 1 1 {}", "spin b a {}", "band a {} 1", "band a 1 {}", "ways a {} 1",
                        "ways a 1 {}"):
                self.refused(NoDeed, desk, row.format(number))


class NoNameTest(DeskCase):
    PLACES = ("floor {} 3:", "sow {} 1 1 1", "show {}", "numbers {}", "place {}", "turn {} 0-2", "undo {}",
              "spin {} a 1", "spin b {} 1", "mirror {} a", "mirror b {}", "band {} 0 1", "ways {} 0 1",
              "fraction {} 0-1", "lead {} a", "lead a {}", "alike {} a", "alike a {}")
    NEW = ("floor {} 3:", "sow {} 1 1 1", "spin {} a 1", "mirror {} a")

    def test_names_that_are_none(self):
        desk = desk_of(a=HEXAGON)
        for row in self.PLACES:
            for name in NO_NAMES:
                self.refused(NoName, desk, row.format(name))

    def test_names_that_no_floor_has(self):
        desk = desk_of(a=HEXAGON)
        for row in [row for row in self.PLACES if row not in self.NEW]:
            for name in ("b", "hexagon", "aa", "abcdefgh", "floor", "show"):
                self.refused(NoName, desk, row.format(name))

    def test_names_of_one_to_eight_small_letters(self):
        for row in self.NEW:
            for name in ("b", "z", "ab", "abcdefgh", "zzzzzzzz", "floor", "a", "show", "qwertyui", "opasdfgh",
                         "jklzxcvb", "nm"):
                desk = desk_of(a=HEXAGON)
                self.assertEqual(desk.say(row.format(name)), "ok")
                self.assertEqual(len(history(desk, name)), 1)

    def test_on_an_empty_desk(self):
        desk = Desk()
        for row in [row for row in ROWS if not row.startswith(("floor", "sow"))]:
            self.refused(NoName, desk, row)


class OrderTest(DeskCase):
    def test_no_deed_comes_first(self):
        desk = desk_of(a=HEXAGON)
        for row in ("show A x", "turn b 0-0", "turn A 00-2", "turn A", "fraction b 2-2", "spin A b -0", "spin b a 01",
                    "mirror A b c", "band A 0 -0", "ways b 01 99", "sow A 01", "sow A", "floor A", "lead b",
                    "alike A b c", "sow A " + str(THIRTY + 1), "band b 0 " + str(SIXTY + 1), "undo", "undo A 1"):
            self.refused(NoDeed, desk, row)

    def test_no_name_comes_ahead_of_the_rest(self):
        desk = desk_of(a=HEXAGON, b=shown(some_cuttings(13)[0]))
        for row in ("floor A x", "floor A ", "floor  3:", "floor A 2:", "floor A 6: 0-1", "floor A 6: 0-2 1-3",
                    "floor A 4:", "sow A 1", "sow A 1 1 2", "sow A -1 1 1", "turn z 0-1", "turn A 98-99", "undo z",
                    "ways z -1 0", "ways z 99 0", "fraction z 0-6", "lead z a", "lead b z", "spin A z 1",
                    "spin b z 1", "spin A a 1", "mirror A z", "mirror A a"):
            self.refused(NoName, desk, row)

    def test_then_in_the_order_of_the_points(self):
        desk = desk_of(a=HEXAGON, b=shown(some_cuttings(13)[0]))
        self.refused(NoText, desk, "floor z 2: 0-1 x")
        self.refused(NoFloor, desk, "floor z 2: 0-1 0-1")
        self.refused(NoLine, desk, "floor z 6: 0-2 1-3 0-1")
        self.refused(Crossed, desk, "floor z 7: 0-2 1-3")
        self.refused(NoRow, desk, "sow z 0 0")
        self.refused(NoCorner, desk, "ways b 13 13")
        self.refused(NoLine, desk, "fraction b 98-99")


class WalkTest(DeskCase):
    def test_refused_rows_between_good_ones_change_nothing(self):
        bad = ("turn a 0-1", "undo b", "undo z", "spin b z 1", "floor a 6: 0-2 1-3", "sow a 2 2 2", "lead a b",
               "ways a 6 0", "fraction a 1-3 ", "show", "turn a 0-6", "mirror A a", "spin a a x", "sow a 1 1")
        good = ("floor a " + HEXAGON, "floor b 4: 0-2", "turn a 0-2", "turn a 0-4", "numbers a", "undo a", "turn a 2-4",
                "spin hexagon a 2", "mirror abcdefgh a", "fraction a 1-4", "show a", "alike a hexagon", "undo a",
                "place a")
        one, other = Desk(), Desk()
        answers = []
        for row in good:
            for wrong in bad:
                try:
                    deepcopy(one).say(wrong)
                except FloorError as told:
                    self.refused(type(told), one, wrong)
            answers.append(one.say(row))
            self.assertEqual(other.say(row), answers[-1])
            self.assertEqual(state(one), state(other))
        self.assertTrue(all(type(answer) is str for answer in answers))


if __name__ == "__main__":
    unittest.main()
