import copy
import unittest

from friezeyard.errors import FloorError, NoLine
from friezeyard.rooms import rooms, thirds, triangles
from tests.helper import (SIXTY, all_cuttings, all_pairs, fan_lines, rooms_by_the_words, sides_of, uncrossed_sets,
                          zigzag_lines)

HEXAGON = (6, ((0, 2), (0, 4), (2, 4)))
ALL_TRIANGLES = [(0, 1, 2), (0, 2, 4), (0, 4, 5), (2, 3, 4)]


def around(room):
    return list(zip(room, room[1:])) + [(room[0], room[-1])]


class RoomsTest(unittest.TestCase):
    def test_without_lines_the_floor_is_one_room(self):
        for n in (3, 4, 5, 60):
            self.assertEqual(rooms(n, []), [tuple(range(n))])
            self.assertEqual(rooms(n, ()), [tuple(range(n))])

    def test_four_corners(self):
        self.assertEqual(rooms(4, [(0, 2)]), [(0, 1, 2), (0, 2, 3)])
        self.assertEqual(rooms(4, [(1, 3)]), [(0, 1, 3), (1, 2, 3)])

    def test_some_lines_of_a_cutting(self):
        self.assertEqual(rooms(6, [(2, 4)]), [(0, 1, 2, 4, 5), (2, 3, 4)])
        self.assertEqual(rooms(6, [(0, 4), (0, 2)]), [(0, 1, 2), (0, 2, 3, 4), (0, 4, 5)])
        self.assertEqual(rooms(6, [(1, 4)]), [(0, 1, 4, 5), (1, 2, 3, 4)])

    def test_a_room_may_touch_no_side(self):
        self.assertEqual(rooms(6, HEXAGON[1]), ALL_TRIANGLES)
        self.assertEqual(rooms(8, [(0, 2), (2, 4), (4, 6), (0, 6)]),
                         [(0, 1, 2), (0, 2, 4, 6), (0, 6, 7), (2, 3, 4), (4, 5, 6)])

    def test_any_order_as_a_list_and_as_a_tuple(self):
        a, b, c = HEXAGON[1]
        for lines in ((a, b, c), (a, c, b), (b, a, c), (b, c, a), (c, a, b), (c, b, a)):
            self.assertEqual(rooms(6, lines), ALL_TRIANGLES)
            self.assertEqual(rooms(6, list(lines)), ALL_TRIANGLES)

    def test_told_as_a_list_of_tuples(self):
        for told in (rooms(5, [(1, 3)]), rooms(5, ((1, 3),)), rooms(3, ())):
            self.assertIs(type(told), list)
            self.assertTrue(all(type(room) is tuple for room in told))

    def test_every_set_of_lines_of_small_floors_by_the_words(self):
        for n in range(3, 8):
            for lines in uncrossed_sets(n):
                wanted = rooms_by_the_words(n, lines)
                self.assertEqual(rooms(n, lines), wanted, (n, lines))
                self.assertEqual(rooms(n, list(reversed(lines))), wanted, (n, lines))

    def test_each_line_belongs_to_two_rooms_and_each_side_to_one(self):
        for n, lines in ((60, zigzag_lines(60)), (60, zigzag_lines(60)[::3]), (60, fan_lines(60, 0)[1::2]),
                         (60, fan_lines(60, 31)[::-2]), (59, fan_lines(59, 58))):
            bounds = [p for room in rooms(n, lines) for p in around(room)]
            self.assertEqual(sorted(bounds), sorted(sides_of(n) + 2 * list(lines)))

    def test_what_is_handed_in_stays(self):
        lines = [(2, 4), (0, 2), (0, 4)]
        rooms(6, lines)
        self.assertEqual(lines, [(2, 4), (0, 2), (0, 4)])

    def test_what_is_told_belongs_to_the_asker(self):
        lines = [(2, 4), (0, 2), (0, 4)]
        told = rooms(6, lines)
        again = rooms(6, lines)
        told.append("more")
        told[0] = None
        self.assertEqual(again, ALL_TRIANGLES)
        self.assertEqual(lines, [(2, 4), (0, 2), (0, 4)])
        lines.clear()
        self.assertEqual(again, ALL_TRIANGLES)
        self.assertEqual(rooms(6, [(2, 4), (0, 2), (0, 4)]), ALL_TRIANGLES)

    def test_told_without_lines_it_is_new_each_time(self):
        rooms(5, []).clear()
        self.assertEqual(rooms(5, []), [(0, 1, 2, 3, 4)])


class TrianglesTest(unittest.TestCase):
    def test_three_corners(self):
        self.assertEqual(triangles((3, ())), [(0, 1, 2)])

    def test_four_and_six_corners(self):
        self.assertEqual(triangles((4, ((0, 2),))), [(0, 1, 2), (0, 2, 3)])
        self.assertEqual(triangles((4, ((1, 3),))), [(0, 1, 3), (1, 2, 3)])
        self.assertEqual(triangles(HEXAGON), ALL_TRIANGLES)

    def test_every_cutting_of_small_floors(self):
        for n in range(3, 8):
            for cut in all_cuttings(n):
                self.assertEqual(triangles(cut), rooms_by_the_words(*cut), cut)
                self.assertEqual(len(triangles(cut)), n - 2)

    def test_sixty_corners(self):
        self.assertEqual(triangles((60, fan_lines(60, 0))), [(0, c, c + 1) for c in range(1, 59)])
        told = triangles((60, zigzag_lines(60)))
        self.assertEqual(len(told), 58)
        self.assertEqual(told, sorted(told))
        self.assertTrue(all(len(corners) == 3 and corners[0] < corners[1] < corners[2] for corners in told))

    def test_what_is_told_belongs_to_the_asker(self):
        cut = copy.deepcopy(HEXAGON)
        told = triangles(cut)
        again = triangles(cut)
        self.assertIs(type(told), list)
        told.clear()
        self.assertEqual(again, ALL_TRIANGLES)
        self.assertEqual(triangles(cut), ALL_TRIANGLES)
        self.assertEqual(thirds(cut, (0, 2)), [1, 4])
        self.assertEqual(cut, HEXAGON)


class ThirdsTest(unittest.TestCase):
    def test_sides_have_one(self):
        for p, third in (((0, 1), 2), ((1, 2), 0), ((2, 3), 4), ((3, 4), 2), ((4, 5), 0), ((0, 5), 4)):
            self.assertEqual(thirds(HEXAGON, p), [third], p)

    def test_lines_have_two_rising(self):
        for p, third in (((0, 2), [1, 4]), ((0, 4), [2, 5]), ((2, 4), [0, 3])):
            self.assertEqual(thirds(HEXAGON, p), third, p)

    def test_three_corners(self):
        cut = (3, ())
        self.assertEqual([thirds(cut, p) for p in ((0, 1), (1, 2), (0, 2))], [[2], [0], [1]])

    def test_sixty_corners(self):
        cut = (60, fan_lines(60, 0))
        self.assertEqual(thirds(cut, (0, 59)), [58])
        self.assertEqual(thirds(cut, (0, 1)), [2])
        self.assertEqual(thirds(cut, (0, 30)), [29, 31])
        self.assertEqual(thirds(cut, (58, 59)), [0])
        self.assertRaises(NoLine, thirds, cut, (1, 59))
        self.assertRaises(NoLine, thirds, cut, (0, 60))

    def test_every_pair_of_every_cutting_of_small_floors(self):
        for n in range(3, 8):
            for cut in all_cuttings(n):
                corners = rooms_by_the_words(*cut)
                for p in all_pairs(n):
                    if p in sides_of(n) or p in cut[1]:
                        wanted = [c for c in range(n) if c not in p and tuple(sorted(p + (c,))) in corners]
                        self.assertEqual(thirds(cut, p), wanted, (cut, p))
                        self.assertEqual(len(wanted), 2 if p in cut[1] else 1)
                    else:
                        self.assertRaises(NoLine, thirds, cut, p)

    def test_lines_of_the_floor_that_the_cutting_has_not_are_refused(self):
        for p in ((1, 3), (1, 4), (1, 5), (3, 5), (2, 5), (0, 3)):
            self.assertRaises(NoLine, thirds, HEXAGON, p)

    def test_tuples_of_two_whole_numbers_that_are_no_pairs_are_refused(self):
        turned_about = [(b, a) for a, b in sides_of(6) + list(HEXAGON[1])]
        for p in turned_about + [(c, c) for c in range(6)] + [(0, 0), (-1, -1), (SIXTY, SIXTY), (SIXTY, 0)]:
            self.assertRaises(NoLine, thirds, HEXAGON, p)

    def test_pairs_beyond_the_floor_are_refused(self):
        for p in ((-1, 0), (-1, 5), (5, 6), (0, 6), (6, 7), (-2, 0), (0, SIXTY), (-SIXTY, 0), (SIXTY - 1, SIXTY)):
            self.assertRaises(NoLine, thirds, HEXAGON, p)

    def test_the_refusal_is_a_floor_error(self):
        self.assertRaises(FloorError, thirds, HEXAGON, (2, 0))

    def test_true_and_false_are_no_corners(self):
        for p in ((False, 1), (0, True), (False, 2), (True, 2), (False, True)):
            self.assertRaises(NoLine, thirds, HEXAGON, p)

    def test_what_is_told_belongs_to_the_asker(self):
        told = thirds(HEXAGON, (0, 2))
        again = thirds(HEXAGON, (0, 2))
        self.assertIs(type(told), list)
        told.reverse()
        told.append(7)
        self.assertEqual(again, [1, 4])
        self.assertEqual(thirds(HEXAGON, (0, 2)), [1, 4])
        self.assertEqual(triangles(HEXAGON), ALL_TRIANGLES)

    def test_a_refusal_changes_nothing(self):
        cut = copy.deepcopy(HEXAGON)
        self.assertRaises(NoLine, thirds, cut, (1, 3))
        self.assertEqual(cut, HEXAGON)
        self.assertEqual(thirds(cut, (0, 2)), [1, 4])


if __name__ == "__main__":
    unittest.main()
