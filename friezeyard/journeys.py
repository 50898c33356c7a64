"""Journeys: deeds done one behind the other, and the way home [35]."""


def walked(cut, deeds):
    found = [cut]
    for deed in deeds:
        found.append(deed.done(found[-1]))
    return found


def home(cut, deeds):
    backs = []
    now = cut
    for deed in deeds:
        backs.append(deed.back(now))
        now = deed.done(now)
    return list(reversed(backs))
