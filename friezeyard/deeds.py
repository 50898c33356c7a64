"""Deeds: a line turned, a spin, a mirroring; done, led back, written and read [34]."""

from friezeyard.common import is_figures, two_read, two_shown
from friezeyard.errors import NoDeed
from friezeyard.images import mirrored, spun
from friezeyard.pairs import pair
from friezeyard.turns import turned


class Deed:
    pass


class TurnLine(Deed):
    def __init__(self, line):
        self.line = line

    def done(self, cut):
        return turned(cut, self.line)[0]

    def back(self, cut):
        return TurnLine(turned(cut, self.line)[1])

    def shown(self):
        return "turn " + two_shown(self.line)


class Spin(Deed):
    def __init__(self, by):
        self.by = by

    def done(self, cut):
        return spun(cut, self.by)

    def back(self, cut):
        return Spin(-self.by)

    def shown(self):
        return "spin " + str(self.by)


class Mirror(Deed):
    def done(self, cut):
        return mirrored(cut)

    def back(self, cut):
        return Mirror()

    def shown(self):
        return "mirror"


def read_deed(text):
    if not isinstance(text, str):
        raise NoDeed("no text")
    words = text.split(" ")
    if words == ["mirror"]:
        return Mirror()
    if len(words) == 2 and words[0] == "turn":
        return TurnLine(pair_read(words[1]))
    if len(words) == 2 and words[0] == "spin":
        return Spin(whole_read(words[1], 60))
    raise NoDeed("no deed is written so")


def pair_read(word):
    two = two_read(word)
    if two is None or two[0] == two[1]:
        raise NoDeed("no two unlike numbers with a - between")
    return pair(two[0], two[1])


def whole_read(word, most):
    figures = word[1:] if word.startswith("-") else word
    if word == "-0" or not is_figures(figures, most):
        raise NoDeed("no whole number, or one of too many figures")
    return int(word)
