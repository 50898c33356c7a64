"""The desk: floors kept by names, and rows that ask or change them [36, 37]."""

from friezeyard.bands import entry
from friezeyard.common import check_pair, two_shown
from friezeyard.deeds import pair_read, whole_read
from friezeyard.errors import NoDeed, NoName, NoTurn
from friezeyard.fractions import fraction
from friezeyard.images import all_images, mirrored, spun
from friezeyard.letters import letters
from friezeyard.numbers import numbers
from friezeyard.places import place
from friezeyard.sharings import sharings
from friezeyard.texts import read, shown
from friezeyard.trails import cutting_of
from friezeyard.turns import turned
from friezeyard.ways import way_to


# came holds the lines that came by the turnings, in their order: what is undone is known by them.
class KeptFloor:
    def __init__(self, first):
        self.first = first
        self.now = first
        self.came = []


class Desk:
    def __init__(self):
        self.floors = {}

    # All words are read ahead of the first name, as NoDeed goes ahead of NoName.
    def say(self, row):
        words = words_of(row)
        form = form_of(words)
        things = [thing_read(kind, word) for kind, word in zip(form, words[1:])]
        meant = [thing_meant(self.floors, kind, thing) for kind, thing in zip(form, things)]
        return ANSWERS[words[0]](self.floors, meant)


def words_of(row):
    if not isinstance(row, str):
        raise NoDeed("no text")
    return row.split(" ", 2) if row.startswith("floor ") else row.split(" ")


def form_of(words):
    form = sow_form(words) if words[0] == "sow" else FORMS.get(words[0])
    if form is None or len(form) != len(words) - 1:
        raise NoDeed("no row begins so, or it has more or fewer words")
    return form


def sow_form(words):
    return ("new",) + ("short",) * max(1, len(words) - 2)


def thing_read(kind, word):
    if kind == "number":
        return whole_read(word, 60)
    if kind == "short":
        return whole_read(word, 30)
    if kind == "pair":
        return pair_read(word)
    return word


def thing_meant(floors, kind, thing):
    if kind == "new" and not is_name(thing):
        raise NoName("no name of one to eight small letters")
    if kind == "kept" and thing not in floors:
        raise NoName("no floor has this name")
    return floors[thing] if kind == "kept" else thing


def is_name(word):
    return 1 <= len(word) <= 8 and all([sign in "abcdefghijklmnopqrstuvwxyz" for sign in word])


# The answers are called alike: so each is handed the floors, though only a few keep a new one there.
def answer_floor(floors, meant):
    return keep(floors, meant[0], read(meant[1]))


def keep(floors, name, cut):
    floors[name] = KeptFloor(cut)
    return "ok"


def answer_sow(floors, meant):
    return keep(floors, meant[0], cutting_of(meant[1:]))


def answer_show(floors, meant):
    return shown(meant[0].now)


def answer_numbers(floors, meant):
    return " ".join([str(number) for number in numbers(meant[0].now)])


def answer_place(floors, meant):
    return str(place(meant[0].now))


def answer_turn(floors, meant):
    new = turn_kept(meant[0], meant[1])
    meant[0].came.append(new)
    return two_shown(new)


def turn_kept(floor, line):
    step = turned(floor.now, line)
    floor.now = step[0]
    return step[1]


def answer_undo(floors, meant):
    if len(meant[0].came) == 0:
        raise NoTurn("no turning is left")
    return two_shown(turn_kept(meant[0], meant[0].came.pop()))


def answer_spin(floors, meant):
    return keep(floors, meant[0], spun(meant[1].now, meant[2]))


def answer_mirror(floors, meant):
    return keep(floors, meant[0], mirrored(meant[1].now))


def answer_band(floors, meant):
    return str(entry(meant[0].now, meant[1], meant[2]))


def answer_ways(floors, meant):
    return str(len(sharings(meant[0].now, meant[1], meant[2])))


def answer_fraction(floors, meant):
    check_pair(meant[0].now, meant[1])
    first = meant[0].first
    terms = [term_shown(letters(first), powers, times) for powers, times in fraction(first, meant[1])]
    return " + ".join(terms)


def term_shown(pairs, powers, times):
    return "*".join([str(times)] + [power_shown(p, power) for p, power in zip(pairs, powers) if power != 0])


def power_shown(p, power):
    return two_shown(p) if power == 1 else two_shown(p) + f"^{power}"


def answer_lead(floors, meant):
    return " ".join([two_shown(line) for line in way_to(meant[0].now, meant[1].now)])


# The images that are not mirrored come first, with the least by ahead.
def answer_alike(floors, meant):
    for found, over, by in all_images(meant[0].now):
        if found == meant[1].now:
            return f"mirror spin {by}" if over else f"spin {by}"
    return "no"


# What stands in each place behind a row's first word: new, a name that need not have a floor; kept,
# one that has; number, short, of at most thirty figures; pair; text, all the rest. A row that sows
# has no form of its own here, as any number of numbers may follow.
FORMS = {
    "floor": ("new", "text"),
    "show": ("kept",),
    "numbers": ("kept",),
    "place": ("kept",),
    "turn": ("kept", "pair"),
    "undo": ("kept",),
    "spin": ("new", "kept", "number"),
    "mirror": ("new", "kept"),
    "band": ("kept", "number", "number"),
    "ways": ("kept", "number", "number"),
    "fraction": ("kept", "pair"),
    "lead": ("kept", "kept"),
    "alike": ("kept", "kept"),
}
ANSWERS = {
    "floor": answer_floor,
    "sow": answer_sow,
    "show": answer_show,
    "numbers": answer_numbers,
    "place": answer_place,
    "turn": answer_turn,
    "undo": answer_undo,
    "spin": answer_spin,
    "mirror": answer_mirror,
    "band": answer_band,
    "ways": answer_ways,
    "fraction": answer_fraction,
    "lead": answer_lead,
    "alike": answer_alike,
}
