"""Sums of products of letters: put together, multiplied, divided, and their worth [24]."""

from friezeyard.errors import NoQuotient


def plus(one, other):
    found = dict(one)
    for powers, times in other:
        found[powers] = found.get(powers, 0) + times
    return sum_from(found)


def sum_from(found):
    return sorted([(powers, times) for powers, times in found.items() if times != 0])


def product(one, other):
    found = {}
    for powers, times in one:
        add_product(found, other, powers, times)
    return sum_from(found)


def add_product(found, terms, powers, times):
    for own_powers, own_times in terms:
        key = tuple([a + b for a, b in zip(own_powers, powers)])
        found[key] = found.get(key, 0) + own_times * times


def quotient(one, other):
    if len(other) == 0:
        raise NoQuotient("nothing is divided by nought")
    rest = one
    found = []
    while len(rest) > 0:
        if len(found) == 100:
            raise NoQuotient("not done within a hundred terms")
        term = term_between(rest[-1], other[-1])
        found.append(term)
        rest = plus(rest, product(other, [(term[0], -term[1])]))
    return sorted(found)


# The greatest terms stand last, as sums are sorted.
def term_between(one, other):
    if one[1] % other[1] != 0:
        raise NoQuotient("the times do not divide")
    return (tuple([a - b for a, b in zip(one[0], other[0])]), one[1] // other[1])


# All terms are brought to one bottom: each letter to the power that takes away the lowest one below nought.
def worth(one, values):
    lowest = [lowest_power(one, k) for k in range(len(values))]
    top = 0
    for powers, times in one:
        top += times * raised(values, [power - low for power, low in zip(powers, lowest)])
    bottom = raised(values, [-low for low in lowest])
    common = common_divisor(top, bottom)
    return (top // common, bottom // common)


def lowest_power(one, k):
    return min([0] + [powers[k] for powers, times in one])


def raised(values, powers):
    found = 1
    for value, power in zip(values, powers):
        found = found * power_of(value, power)
    return found


def power_of(value, power):
    found = 1
    for step in range(power):
        found = found * value
    return found


def common_divisor(top, bottom):
    while bottom != 0:
        rest = top % bottom
        top = bottom
        bottom = rest
    return top
