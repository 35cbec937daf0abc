"""Intervals between two dyads of a format."""

from steadycraft.dyads import dyad_from, dyad_to, exact, has, is_dyad, under, whole_near
from steadycraft.errors import NoFractions, NoInterval, Nought
from steadycraft.kinds import is_fraction, is_pair


def is_interval(format, thing):
    return is_pair(thing) and has(format, thing[0]) and has(format, thing[1]) and not under(thing[1], thing[0])


def hull(format, values):
    if not isinstance(values, (list, tuple)) or len(values) == 0:
        raise NoFractions()
    if not all([is_fraction(value) for value in values]):
        raise NoFractions()
    return about(format, values)


def about(format, values):
    """The least interval that holds some fractions, in whatever terms."""
    least = most = values[0]
    for value in values:
        if less(value, least):
            least = value
        if less(most, value):
            most = value
    return dyad_to(format, least[0], least[1]), dyad_from(format, most[0], most[1])


def less(one, other):
    """Whether a fraction is less than another one."""
    return one[0] * other[1] < other[0] * one[1]


def lesser(one, other):
    return other if under(other, one) else one


def greater(one, other):
    return other if under(one, other) else one


def check_both(format, one, other):
    if not is_interval(format, one) or not is_interval(format, other):
        raise NoInterval()


def met(format, one, other):
    check_both(format, one, other)
    low, high = greater(one[0], other[0]), lesser(one[1], other[1])
    return None if under(high, low) else (low, high)


def joined(format, one, other):
    check_both(format, one, other)
    return lesser(one[0], other[0]), greater(one[1], other[1])


def encloses(one, other):
    """Whether an interval holds all that another one holds."""
    return not under(other[0], one[0]) and not under(one[1], other[1])


def combined(format, word, one, other):
    """The least interval that holds what comes of each fraction of one and each of other."""
    if word == "least":
        return lesser(one[0], other[0]), lesser(one[1], other[1])
    if word == "greatest":
        return greater(one[0], other[0]), greater(one[1], other[1])
    if word == "over" and not under((0, 0), other[0]) and not under(other[1], (0, 0)):
        raise Nought()
    # Each of the four ways goes only up, or only down, in each of both: the ends are at ends.
    return about(format, [exact(word, end, other_end) for end in one for other_end in other])


def asked_in(format, word, one, other):
    """The same of things that are perhaps no intervals."""
    check_both(format, one, other)
    return combined(format, word, one, other)


def plus_in(format, one, other):
    return asked_in(format, "plus", one, other)


def minus_in(format, one, other):
    return asked_in(format, "minus", one, other)


def times_in(format, one, other):
    return asked_in(format, "times", one, other)


def over_in(format, one, other):
    return asked_in(format, "over", one, other)


def least_in(format, one, other):
    return asked_in(format, "least", one, other)


def greatest_in(format, one, other):
    return asked_in(format, "greatest", one, other)


def whole_in(interval):
    if not is_pair(interval) or not is_dyad(interval[0]) or not is_dyad(interval[1]):
        raise NoInterval()
    if under(interval[1], interval[0]):
        raise NoInterval()
    return wholes_between(interval)


def wholes_between(interval):
    """The least and the greatest whole: a greater dyad has no lesser whole."""
    return whole_near(interval[0]), whole_near(interval[1])
