"""A cutting told as a text, and a text read [9]."""

from friezeyard.common import is_figures, two_read, two_shown
from friezeyard.cuttings import cutting
from friezeyard.errors import NoText


def shown(cut):
    n = cut[0]
    return " ".join([f"{n}:"] + [two_shown(line) for line in cut[1]])


def read(text):
    if not isinstance(text, str):
        raise NoText("no text")
    words = text.split(" ")
    return cutting(corners_read(words[0]), [line_read(word) for word in words[1:]])


def corners_read(word):
    if not word.endswith(":") or not is_figures(word[:-1], 2):
        raise NoText("no number of one or two figures with a colon behind it")
    return int(word[:-1])


def line_read(word):
    two = two_read(word)
    if two is None:
        raise NoText("no two numbers with a - between")
    return two
