"""A yard: turnings of a cutting, with the fractions carried along [28]."""

from friezeyard.common import check_pair
from friezeyard.errors import TooMany
from friezeyard.letters import letter, letters
from friezeyard.sums import plus, product, quotient
from friezeyard.turns import four_of, turned


class Yard:
    def __init__(self, first):
        if first[0] > 12:
            raise TooMany("a yard has at most twelve corners")
        self.first = first
        self.now = first
        self.carried = dict([(p, letter(first, p)) for p in letters(first)])

    def told(self, p):
        check_pair(self.now, p)
        return list(self.carried[p])

    def turn(self, line):
        step = turned(self.now, line)
        self.carried[step[1]] = self.exchanged(line)
        self.carried.pop(line)
        self.now = step[0]
        return step[1]

    def exchanged(self, line):
        four = four_of(self.now, line)
        there = self.multiplied((four[0], four[1]), (four[2], four[3]))
        across = self.multiplied((four[0], four[3]), (four[1], four[2]))
        return quotient(plus(there, across), self.carried[line])

    def multiplied(self, p, other):
        return product(self.carried[p], self.carried[other])
