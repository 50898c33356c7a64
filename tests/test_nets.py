import copy
import unittest
from itertools import combinations, product

from friezeyard.nets import net_of, overturned, renamed
from friezeyard.turns import turned
from tests.helper import SIXTY, all_cuttings, rooms_by_the_words, some_cuttings

P, Q, R, S = (0, 1), (0, 2), (1, 2), (3, 7)
HEXAGON = (6, ((0, 2), (0, 4), (2, 4)))


def small_nets(points, most):
    """All nets on the points with at most so many between two."""
    pairs = list(combinations(points, 2))
    for flows in product(range(-most, most + 1), repeat=len(pairs)):
        there = [(x, y, many) for (x, y), many in zip(pairs, flows) if many > 0]
        back = [(y, x, -many) for (x, y), many in zip(pairs, flows) if many < 0]
        yield sorted(there + back)


def overturned_by_the_words(net, p):
    """Point 23, word by word: every arrow is laid out one by one, and laid away again against one the other way."""
    single = [(x, y) for x, y, many in net for each in range(many)]
    more = [(x, y) for x, end in single for start, y in single if end == p and start == p]
    laid = [(y, x) if p in (x, y) else (x, y) for x, y in single]
    for x, y in more:
        if (y, x) in laid:
            laid.remove((y, x))
        else:
            laid.append((x, y))
    return sorted((x, y, laid.count((x, y))) for x, y in set(laid))


def net_by_the_words(cut):
    found = rooms_by_the_words(*cut)
    return sorted([((a, b), (b, c), 1) for a, b, c in found] + [((b, c), (a, c), 1) for a, b, c in found]
                  + [((a, c), (a, b), 1) for a, b, c in found])


class NetOfTest(unittest.TestCase):
    def test_three_and_four_corners(self):
        self.assertEqual(net_of((3, ())), [((0, 1), (1, 2), 1), ((0, 2), (0, 1), 1), ((1, 2), (0, 2), 1)])
        self.assertEqual(net_of((4, ((0, 2),))),
                         [((0, 1), (1, 2), 1), ((0, 2), (0, 1), 1), ((0, 2), (2, 3), 1), ((0, 3), (0, 2), 1),
                          ((1, 2), (0, 2), 1), ((2, 3), (0, 3), 1)])

    def test_every_cutting_of_small_floors(self):
        for cut in [cut for n in range(3, 8) for cut in all_cuttings(n)]:
            self.assertEqual(net_of(cut), net_by_the_words(cut))

    def test_sixty_corners(self):
        for cut in some_cuttings(60):
            net = net_of(cut)
            self.assertEqual(len(net), 3 * 58)
            self.assertEqual(net, sorted(net))
            self.assertEqual(len({frozenset(arrow[:2]) for arrow in net}), 3 * 58)
        wanted = [[((0, c), (c, c + 1), 1), ((c, c + 1), (0, c + 1), 1), ((0, c + 1), (0, c), 1)] for c in range(1, 59)]
        self.assertEqual(net_of(some_cuttings(60)[0]), sorted(sum(wanted, [])))

    def test_what_is_told_belongs_to_the_asker(self):
        told, again = net_of((3, ())), net_of((3, ()))
        self.assertIs(type(told), list)
        self.assertTrue(all(type(arrow) is tuple for arrow in told))
        told.clear()
        self.assertEqual(again, [((0, 1), (1, 2), 1), ((0, 2), (0, 1), 1), ((1, 2), (0, 2), 1)])
        self.assertEqual(net_of((3, ())), again)


class OverturnedTest(unittest.TestCase):
    def test_an_arrow_alone_is_turned_about(self):
        self.assertEqual(overturned([(P, Q, 3)], P), [(Q, P, 3)])
        self.assertEqual(overturned([(P, Q, 3)], Q), [(Q, P, 3)])

    def test_many_are_multiplied(self):
        self.assertEqual(overturned([(P, Q, 2), (Q, R, 3)], Q), [(P, R, 6), (Q, P, 2), (R, Q, 3)])

    def test_the_same_way_they_are_put_together(self):
        self.assertEqual(overturned([(P, Q, 2), (P, R, 4), (Q, R, 3)], Q), [(P, R, 10), (Q, P, 2), (R, Q, 3)])

    def test_the_other_way_the_greater_less_the_smaller_stays(self):
        self.assertEqual(overturned([(P, Q, 2), (Q, R, 3), (R, P, 5)], Q), [(P, R, 1), (Q, P, 2), (R, Q, 3)])
        self.assertEqual(overturned([(P, Q, 2), (Q, R, 3), (R, P, 8)], Q), [(Q, P, 2), (R, P, 2), (R, Q, 3)])

    def test_the_other_way_alike_nothing_stays(self):
        self.assertEqual(overturned([(P, Q, 2), (Q, R, 3), (R, P, 6)], Q), [(Q, P, 2), (R, Q, 3)])

    def test_several_ways_through_the_point(self):
        net = [(P, R, 2), (Q, R, 1), (R, S, 3)]
        self.assertEqual(overturned(net, R), [(P, S, 6), (Q, S, 3), (R, P, 2), (R, Q, 1), (S, R, 3)])
        self.assertEqual(overturned([(P, Q, 1), (P, R, 1), (S, P, 1)], P), [(P, S, 1), (Q, P, 1), (R, P, 1), (S, Q, 1),
                                                                          (S, R, 1)])

    def test_where_no_arrow_stands_the_net_stays(self):
        net = [(P, Q, 2), (Q, R, 3)]
        self.assertEqual(overturned(net, S), net)
        self.assertEqual(overturned(net, (-5, 9)), net)
        self.assertEqual(overturned([], P), [])

    def test_a_source_and_an_end(self):
        net = [(P, Q, 2), (P, R, 1), (Q, R, 3)]
        self.assertEqual(overturned(net, P), [(Q, P, 2), (Q, R, 3), (R, P, 1)])
        self.assertEqual(overturned(net, R), [(P, Q, 2), (R, P, 1), (R, Q, 3)])

    def test_great_numbers(self):
        self.assertEqual(overturned([(P, Q, SIXTY), (Q, R, SIXTY), (R, P, 1)], Q),
                         [(P, R, SIXTY * SIXTY - 1), (Q, P, SIXTY), (R, Q, SIXTY)])

    def test_all_small_nets_by_the_words_and_twice(self):
        for net in list(small_nets((P, Q, R), 4)) + list(small_nets((P, Q, R, S), 1)):
            for point in (P, Q, R, S):
                told = overturned(net, point)
                self.assertEqual(told, overturned_by_the_words(net, point), (net, point))
                self.assertEqual(overturned(told, point), net, (net, point))

    def test_more_small_nets_twice(self):
        for net in list(small_nets((P, Q, R, S), 2))[::7]:
            for point in (P, Q, R, S):
                told = overturned(net, point)
                self.assertEqual(told, overturned_by_the_words(net, point), (net, point))
                self.assertEqual(overturned(told, point), net, (net, point))

    def test_the_net_handed_in_stays(self):
        net = [(P, Q, 2), (Q, R, 3), (R, P, 6)]
        kept = copy.deepcopy(net)
        for point in (P, Q, R, S):
            overturned(net, point).clear()
            self.assertEqual(net, kept)


class RenamedTest(unittest.TestCase):
    def test_wherever_it_stands_and_sorted_anew(self):
        net = [(P, Q, 2), (Q, R, 3), (R, P, 6)]
        self.assertEqual(renamed(net, P, S), [(Q, R, 3), (R, S, 6), (S, Q, 2)])
        self.assertEqual(renamed(net, Q, S), [(P, S, 2), (R, P, 6), (S, R, 3)])
        self.assertEqual(renamed(net, R, (-4, 0)), [((-4, 0), P, 6), (P, Q, 2), (Q, (-4, 0), 3)])

    def test_what_is_no_point_leaves_the_net(self):
        net = [(P, Q, 2), (Q, R, 3)]
        self.assertEqual(renamed(net, S, (4, 5)), net)
        self.assertEqual(renamed([], P, Q), [])

    def test_there_and_back(self):
        for net in list(small_nets((P, Q, R), 2)):
            for point in (P, Q, R):
                self.assertEqual(renamed(renamed(net, point, S), S, point), net)

    def test_the_net_handed_in_stays(self):
        net = [(P, Q, 2), (Q, R, 3), (R, P, 6)]
        kept = copy.deepcopy(net)
        renamed(net, P, S).clear()
        renamed(net, S, (4, 5)).clear()
        self.assertEqual(net, kept)


class TurningsTest(unittest.TestCase):
    def test_every_line_of_every_cutting_of_small_floors(self):
        for cut in [cut for n in range(4, 8) for cut in all_cuttings(n)]:
            for line in cut[1]:
                told, new = turned(cut, line)
                self.assertEqual(renamed(overturned(net_of(cut), line), line, new), net_of(told), (cut, line))

    def test_along_many_turnings(self):
        for cut in some_cuttings(12) + some_cuttings(60):
            now, net = cut, net_of(cut)
            for step in range(40):
                line = now[1][step * 17 % len(now[1])]
                now, new = turned(now, line)
                net = renamed(overturned(net, line), line, new)
                self.assertEqual(net, net_of(now))

    def test_a_net_overturned_at_a_line_twice(self):
        for cut in all_cuttings(6) + some_cuttings(60):
            for line in cut[1]:
                self.assertEqual(overturned(overturned(net_of(cut), line), line), net_of(cut))

    def test_a_net_overturned_at_a_side(self):
        net = net_of((4, ((0, 2),)))
        self.assertEqual(overturned(net, (0, 1)), overturned_by_the_words(net, (0, 1)))
        self.assertEqual(overturned(overturned(net, (0, 1)), (0, 1)), net)


if __name__ == "__main__":
    unittest.main()
