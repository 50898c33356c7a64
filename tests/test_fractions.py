import unittest
from itertools import combinations, product as choices
from random import Random

from friezeyard.bands import entry
from friezeyard.errors import FloorError, NoLine, TooMany
from friezeyard.fractions import fraction
from friezeyard.sums import plus, product
from tests.helper import (all_cuttings, all_pairs, drawn_cutting, no_pairs_of, rooms_by_the_words, sides_of,
                          some_cuttings)

HEXAGON = (6, ((0, 2), (0, 4), (2, 4)))
SMALL = [cut for n in range(3, 7) for cut in all_cuttings(n)]


def letters_of(cut):
    return sorted(sides_of(cut[0]) + list(cut[1]))


def letter_alone(cut, p):
    return [(tuple(int(own == p) for own in letters_of(cut)), 1)]


def fractions_by_the_words(cut):
    """Point 26, word by word, by pair: of all ways to give each triangle a corner, those that are sharings."""
    found, corner_sets = {}, rooms_by_the_words(*cut)
    for given in choices(*corner_sets):
        without = tuple(c for c in range(cut[0]) if c not in given)
        if len(without) == 2 and len(set(given)) == len(given):
            above = [tuple(c for c in corners if c != own) for corners, own in zip(corner_sets, given)]
            powers = tuple(above.count(p) - (p in cut[1]) for p in letters_of(cut))
            terms = found.setdefault(without, {})
            terms[powers] = terms.get(powers, 0) + 1
    return {p: sorted(terms.items()) for p, terms in found.items()}


class FractionTest(unittest.TestCase):
    def test_four_corners(self):
        self.assertEqual(fraction((4, ((0, 2),)), (1, 3)), [((0, -1, 1, 1, 0), 1), ((1, -1, 0, 0, 1), 1)])
        self.assertEqual(fraction((4, ((1, 3),)), (0, 2)), [((0, 1, 1, -1, 0), 1), ((1, 0, 0, -1, 1), 1)])

    def test_letters_are_told_by_themselves(self):
        for cut in SMALL + some_cuttings(12):
            for p in letters_of(cut):
                self.assertEqual(fraction(cut, p), letter_alone(cut, p), (cut, p))

    def test_all_pairs_of_small_floors_by_the_words(self):
        for cut in SMALL:
            wanted = fractions_by_the_words(cut)
            self.assertEqual(sorted(wanted), all_pairs(cut[0]))
            for p in all_pairs(cut[0]):
                self.assertEqual(fraction(cut, p), wanted[p], (cut, p))

    def test_some_of_greater_floors_by_the_words(self):
        for n in (7, 8, 9):
            for cut in some_cuttings(n) + [drawn_cutting(n, Random(n))]:
                wanted = fractions_by_the_words(cut)
                for p in all_pairs(n):
                    self.assertEqual(fraction(cut, p), wanted[p], (cut, p))

    def test_times_and_powers(self):
        for cut in SMALL + some_cuttings(11) + some_cuttings(12):
            for p in all_pairs(cut[0]):
                told = fraction(cut, p)
                self.assertEqual(sum(times for powers, times in told), entry(cut, *p))
                self.assertTrue(all(times > 0 for powers, times in told))
                self.assertEqual(told, sorted(told))
                self.assertEqual(len({powers for powers, times in told}), len(told))
                for powers, times in told:
                    below = [own for own, power in zip(letters_of(cut), powers) if power < 0]
                    self.assertTrue(set(below) <= set(cut[1]), (cut, p))

    def test_four_corners_multiplied(self):
        for cut in SMALL + some_cuttings(7):
            told = {p: fraction(cut, p) for p in all_pairs(cut[0])}
            for a, b, c, d in combinations(range(cut[0]), 4):
                there = product(told[a, b], told[c, d])
                across = product(told[a, d], told[b, c])
                self.assertEqual(product(told[a, c], told[b, d]), plus(there, across), (cut, a, b, c, d))

    def test_four_corners_multiplied_of_twelve(self):
        draw = Random(12)
        for cut in some_cuttings(12) + [drawn_cutting(12, draw) for k in range(5)]:
            for a, b, c, d in [sorted(draw.sample(range(12), 4)) for k in range(10)]:
                there = product(fraction(cut, (a, b)), fraction(cut, (c, d)))
                across = product(fraction(cut, (a, d)), fraction(cut, (b, c)))
                self.assertEqual(product(fraction(cut, (a, c)), fraction(cut, (b, d))), plus(there, across))

    def test_what_is_no_pair_of_two_corners(self):
        for n in (3, 4, 6, 12, 13, 14, 60):
            for cut in some_cuttings(n)[:1] if n > 6 else all_cuttings(n)[:1]:
                for p in no_pairs_of(n, all_pairs(n)):
                    self.assertRaises(NoLine, fraction, cut, p)
        self.assertRaises(FloorError, fraction, HEXAGON, (2, 0))

    def test_true_and_false_are_no_corners(self):
        for p in ((False, 1), (0, True), (False, 2), (True, 4)):
            self.assertRaises(NoLine, fraction, HEXAGON, p)

    def test_above_twelve_corners_are_too_many(self):
        for n in (13, 14, 60):
            for cut in some_cuttings(n):
                for p in ((0, 1), (0, n - 1), (0, 2), (3, 9), (n - 2, n - 1), (n - 3, n - 1)):
                    self.assertRaises(TooMany, fraction, cut, p)
        self.assertRaises(FloorError, fraction, some_cuttings(13)[0], (0, 1))

    def test_what_is_told_belongs_to_the_asker(self):
        told, again = fraction(HEXAGON, (1, 4)), fraction(HEXAGON, (1, 4))
        self.assertIs(type(told), list)
        self.assertTrue(all(type(term) is tuple and type(term[0]) is tuple for term in told))
        told.clear()
        self.assertEqual(len(again), 2)
        self.assertEqual(fraction(HEXAGON, (1, 4)), again)


if __name__ == "__main__":
    unittest.main()
