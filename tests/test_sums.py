import copy
import unittest
from fractions import Fraction
from itertools import product as ways
from math import gcd

from friezeyard.errors import FloorError, NoQuotient
from friezeyard.sums import plus, product, quotient, worth
from tests.helper import SIXTY

X, Y, ONE = [((1, 0), 1)], [((0, 1), 1)], [((0, 0), 1)]
POWERS = [(-1, 2), (0, 0), (0, 1), (1, -1)]


def small_sums():
    """Sums over two letters, the one without terms among them."""
    return [[(powers, times) for powers, times in zip(POWERS, many) if times] for many in ways((-2, 0, 1), repeat=4)]


def value(one, values):
    """What a sum stands for, with Python's own fractions."""
    found = Fraction(0)
    for powers, times in one:
        term = Fraction(times)
        for number, power in zip(values, powers):
            term *= Fraction(number) ** power
        found += term
    return found


def stretch(first, last, times=1):
    """The sum over one letter of all its powers from first to last."""
    return [((power,), times) for power in range(first, last + 1)]


class SumsTest(unittest.TestCase):
    def is_sum(self, one):
        self.assertIs(type(one), list)
        self.assertEqual(one, sorted(one))
        self.assertEqual(len({powers for powers, times in one}), len(one))
        for term in one:
            self.assertEqual((type(term), type(term[0])), (tuple, tuple))
            self.assertNotEqual(term[1], 0)

    def refused(self, one, other):
        with self.assertRaises(NoQuotient):
            quotient(one, other)


class PlusTest(SumsTest):
    def test_a_few(self):
        self.assertEqual(plus(X, Y), [((0, 1), 1), ((1, 0), 1)])
        self.assertEqual(plus(X, X), [((1, 0), 2)])
        self.assertEqual(plus([((-1,), 2), ((3,), 1)], [((-2,), 5), ((3,), 4)]), [((-2,), 5), ((-1,), 2), ((3,), 5)])

    def test_without_terms(self):
        self.assertEqual(plus([], []), [])
        self.assertEqual(plus(X, []), X)
        self.assertEqual(plus([], X), X)

    def test_terms_that_fall_out(self):
        self.assertEqual(plus([((1, 0), 3)], [((1, 0), -3)]), [])
        self.assertEqual(plus([((0, 1), 2), ((1, 0), 3)], [((0, 1), -2), ((1, 0), 1)]), [((1, 0), 4)])

    def test_all_small_sums(self):
        for one in small_sums():
            for other in small_sums()[::5]:
                told = plus(one, other)
                self.is_sum(told)
                both = dict(one)
                for powers, times in other:
                    both[powers] = both.get(powers, 0) + times
                self.assertEqual(dict(told), {powers: times for powers, times in both.items() if times})

    def test_great_numbers(self):
        self.assertEqual(plus([((60,) * 40, SIXTY)], [((-60,) * 40, 1), ((60,) * 40, SIXTY)]),
                         [((-60,) * 40, 1), ((60,) * 40, 2 * SIXTY)])


class ProductTest(SumsTest):
    def test_a_few(self):
        self.assertEqual(product(X, Y), [((1, 1), 1)])
        self.assertEqual(product([((-2, 3), 4)], [((1, -5), -2)]), [((-1, -2), -8)])
        self.assertEqual(product(plus(X, Y), plus(X, Y)), [((0, 2), 1), ((1, 1), 2), ((2, 0), 1)])

    def test_terms_that_fall_out(self):
        self.assertEqual(product([((0,), 1), ((1,), 1)], [((0,), -1), ((1,), 1)]), [((0,), -1), ((2,), 1)])

    def test_without_terms_and_by_one(self):
        self.assertEqual(product([], []), [])
        self.assertEqual(product(X, []), [])
        self.assertEqual(product([], plus(X, Y)), [])
        for one in small_sums():
            self.assertEqual(product(one, ONE), one)
            self.assertEqual(product(ONE, one), one)

    def test_all_small_sums(self):
        for one in small_sums():
            for other in small_sums()[::3]:
                told = product(one, other)
                self.is_sum(told)
                self.assertEqual(told, product(other, one))
                for values in ((2, 3), (5, 1), (1000003, 999)):
                    self.assertEqual(value(told, values), value(one, values) * value(other, values))

    def test_a_hundred_terms_by_a_hundred(self):
        one = [((power, 0), 2) for power in range(-50, 50)]
        other = [((0, power), 3) for power in range(-50, 50)]
        self.assertEqual(product(one, other), [((a, b), 6) for a in range(-50, 50) for b in range(-50, 50)])


class QuotientTest(SumsTest):
    def test_a_few(self):
        self.assertEqual(quotient([((0,), -1), ((2,), 1)], [((0,), 1), ((1,), 1)]), [((0,), -1), ((1,), 1)])
        self.assertEqual(quotient(X, Y), [((1, -1), 1)])
        self.assertEqual(quotient(ONE, X), [((-1, 0), 1)])
        self.assertEqual(quotient([((3, 0), 6)], [((1, 2), -2)]), [((2, -2), -3)])

    def test_powers_below_nought(self):
        self.assertEqual(quotient([((-3,), 1), ((-1,), -1)], [((-2,), 1), ((-1,), 1)]), [((-1,), 1), ((0,), -1)])

    def test_all_small_sums_come_out(self):
        for one in small_sums():
            for other in small_sums():
                if other:
                    told = quotient(product(one, other), other)
                    self.is_sum(told)
                    self.assertEqual(told, one, (one, other))

    def test_by_nought(self):
        for one in ([], X, ONE, plus(X, Y)):
            self.refused(one, [])

    def test_nought_by_another_sum(self):
        for other in (X, ONE, plus(X, Y), [((-1, 4), -7)]):
            self.assertEqual(quotient([], other), [])

    def test_times_that_do_not_divide(self):
        self.refused([((1,), 3)], [((0,), 2)])
        self.refused([((0,), 1)], [((0,), -2)])
        self.refused([((0,), 2), ((1,), 3)], [((0,), 2)])
        self.refused([((0,), 1), ((1,), 4)], [((0,), 2)])
        self.assertEqual(quotient([((0,), 4), ((1,), -6)], [((0,), -2)]), [((0,), -2), ((1,), 3)])

    def test_what_goes_on_for_ever(self):
        self.refused(ONE, plus(X, ONE))
        self.refused(X, plus(X, Y))
        self.refused(plus(X, Y), [((0, 1), -1), ((1, 0), 1)])
        self.refused([((0,), 2), ((2,), 1)], [((0,), 1), ((1,), 1)])
        self.refused([((0,), 1)], [((-1,), SIXTY), ((0,), 1)])

    def test_small_sums_that_do_not_come_out(self):
        for one in small_sums():
            for other in small_sums()[::4]:
                try:
                    told = quotient(one, other)
                except NoQuotient:
                    if other:
                        self.assertFalse([each for each in small_sums() if product(each, other) == one], (one, other))
                else:
                    self.assertEqual(product(told, other), one)

    def test_just_a_hundred_terms(self):
        less_one = [((0,), -1), ((1,), 1)]
        self.assertEqual(quotient([((-50,), -1), ((50,), 1)], less_one), stretch(-50, 49))
        self.assertEqual(quotient(stretch(-50, 49), [((0,), 1)]), stretch(-50, 49))

    def test_more_than_a_hundred_terms(self):
        less_one = [((0,), -1), ((1,), 1)]
        self.refused([((-50,), -1), ((51,), 1)], less_one)
        self.refused(stretch(-50, 50), [((0,), 1)])
        self.refused(stretch(-50, 50, 6), [((3,), 2)])
        self.assertEqual(quotient([((-49,), -1), ((50,), 1)], less_one), stretch(-49, 49))

    def test_ten_thousand_terms_by_a_hundred(self):
        one = [((power, 0), 2) for power in range(-50, 50)]
        other = [((0, power), 3) for power in range(-50, 50)]
        both = [((a, b), 6) for a in range(-50, 50) for b in range(-50, 50)]
        self.assertEqual(quotient(both, other), one)
        self.assertEqual(quotient(both, one), other)
        self.refused(both[1:], other)

    def test_the_refusal_is_a_floor_error(self):
        self.assertRaises(FloorError, quotient, X, [])


class WorthTest(SumsTest):
    def test_a_few(self):
        self.assertEqual(worth(X, [3, 5]), (3, 1))
        self.assertEqual(worth([((1, -1), 1)], [3, 5]), (3, 5))
        self.assertEqual(worth([((-1, 0), 1), ((0, -1), 1)], [2, 3]), (5, 6))
        self.assertEqual(worth([((-2, 1), 7)], [2, 3]), (21, 4))

    def test_nought(self):
        self.assertEqual(worth([], [1]), (0, 1))
        self.assertEqual(worth([], [7, 9, 11]), (0, 1))
        self.assertEqual(worth([((0, 1), -1), ((1, 0), 1)], [4, 4]), (0, 1))
        self.assertEqual(worth([((-3, 0), -1), ((0, -3), 1)], [4, 4]), (0, 1))

    def test_below_nought(self):
        self.assertEqual(worth([((1, 0), -2)], [3, 5]), (-6, 1))
        self.assertEqual(worth([((-1, 1), -2)], [4, 3]), (-3, 2))
        self.assertEqual(worth([((-1, 0), -1), ((0, -1), 1)], [2, 3]), (-1, 6))

    def test_least_terms(self):
        self.assertEqual(worth([((1, -1), 1)], [6, 4]), (3, 2))
        self.assertEqual(worth([((1, -1), 1)], [12, 4]), (3, 1))
        self.assertEqual(worth([((-1, 0), 1), ((0, -1), 1)], [2, 2]), (1, 1))
        self.assertEqual(worth([((-2,), 10)], [10]), (1, 10))
        self.assertEqual(worth([((60, -60), 1)], [SIXTY, SIXTY]), (1, 1))

    def test_letters_that_stand_for_one(self):
        self.assertEqual(worth([((-60, 60), 5), ((0, 0), 2)], [1, 1]), (7, 1))

    def test_all_small_sums(self):
        for one in small_sums():
            for values in ([1, 1], [2, 3], [6, 4], [7, 7], [12, 1], [10 ** 20, 15]):
                top, bottom = worth(one, values)
                self.assertEqual(Fraction(top, bottom), value(one, values))
                self.assertGreaterEqual(bottom, 1)
                self.assertEqual(gcd(top, bottom), 1)
                self.assertIs(type(worth(one, values)), tuple)

    def test_forty_letters(self):
        one = [(tuple((k + shift) % 7 - 3 for k in range(40)), shift - 4) for shift in (0, 1, 2, 3, 5, 6)]
        one = sorted(one)
        values = [k % 5 + 1 for k in range(40)]
        self.assertEqual(Fraction(*worth(one, values)), value(one, values))
        self.assertEqual(gcd(*worth(one, values)), 1)


class BelongingTest(SumsTest):
    def test_what_is_handed_in_stays(self):
        sums = [[], X, [((-1, 2), 3), ((0, 0), -1), ((1, 1), 2)], [((0, 0), -1), ((1, 1), 2)]]
        kept, values = copy.deepcopy(sums), [3, 5]
        for one in sums:
            for other in sums:
                plus(one, other).append("more")
                product(one, other).append("more")
                worth(one, values)
                try:
                    quotient(one, other).append("more")
                except NoQuotient:
                    pass
                self.assertEqual(sums, kept)
                self.assertEqual(values, [3, 5])

    def test_what_is_told_belongs_to_the_asker(self):
        for asked in (plus, product, quotient):
            told, again = asked(X, Y), asked(X, Y)
            told.clear()
            self.assertEqual(again, asked(X, Y))
            self.assertNotEqual(again, [])
        quotient([], X).append("more")
        product([], X).append("more")
        plus([], []).append("more")
        self.assertEqual([quotient([], X), product([], X), plus([], [])], [[], [], []])


if __name__ == "__main__":
    unittest.main()
