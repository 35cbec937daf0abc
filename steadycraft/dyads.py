"""Dyads: the floating numbers that formats of few bits have, and their rounding."""

from steadycraft.errors import BadFormat, Beyond, NoDyad, NoFraction, Nought, NoWay
from steadycraft.kinds import is_between, is_fraction, is_integer, is_one_of, is_pair

WAYS = ("up", "down", "cut", "near", "far")


class Format:
    """Which dyads there are: those of at most so many bits, counted in powers of 2 from low to high."""

    def __init__(self, bits, low, high):
        if not is_between(2, 24, bits):
            raise BadFormat("bits")
        if not is_between(-40, 40, low):
            raise BadFormat("low")
        if not is_between(low, 40, high):
            raise BadFormat("high")
        self.bits = bits
        self.low = low
        self.high = high

    def __eq__(self, other):
        if not isinstance(other, Format):
            return False
        return self.bits == other.bits and self.low == other.low and self.high == other.high


def is_dyad(thing):
    if not is_pair(thing) or not is_integer(thing[0]) or not is_between(-200, 200, thing[1]):
        return False
    return thing[0] & 1 == 1 or (thing[0] == 0 and thing[1] == 0)


def is_way(thing):
    return is_one_of(WAYS, thing)


def has(format, thing):
    """Whether a thing is a dyad that the format has."""
    if not is_dyad(thing):
        return False
    many, step = thing
    if many == 0:
        return True
    # The greatest power of 2 by which it can be counted needs the fewest bits.
    return step >= format.low and scaled(many, step - format.high).bit_length() <= format.bits


def scaled(many, by):
    """An integer times 2 to the by, or itself where by is below 0."""
    return many << by if by > 0 else many


def parts(dyad):
    """Top and bottom of the fraction that a dyad stands for."""
    many, step = dyad
    return scaled(many, step), scaled(1, -step)


def worth(dyad):
    if not is_dyad(dyad):
        raise NoDyad()
    return parts(dyad)


def whole(dyad):
    if not is_dyad(dyad):
        raise NoDyad()
    return whole_near(dyad)


def whole_near(dyad):
    """The nearest integer, of two as near the even one."""
    top, bottom = parts(dyad)
    many, rest = divmod(top, bottom)
    if 2 * rest > bottom or (2 * rest == bottom and many & 1 == 1):
        return many + 1
    return many


def under(one, other):
    """Whether one dyad stands for less than another one."""
    (many, step), (others, steps) = one, other
    return scaled(many, step - steps) < scaled(others, steps - step)


def shaped(many, step):
    """The dyad that stands for an integer times 2 to the step."""
    if many == 0:
        return (0, 0)
    spare = (many & -many).bit_length() - 1
    return (many >> spare, step + spare)


def stepped(format, top, bottom):
    """A fraction above 0, counted by the least power of 2 that the format's bits let.

    The result (step, many, rest, bottom) says that it is many + rest / bottom times
    2 to the step; a step above format.high says that it is beyond all dyads.
    """
    log = top.bit_length() - bottom.bit_length()
    if scaled(top, -log) < scaled(bottom, log):
        log -= 1
    step = max(format.low, log - format.bits + 1)
    top, bottom = scaled(top, -step), scaled(bottom, step)
    many, rest = divmod(top, bottom)
    return step, many, rest, bottom


def inward(format, top, bottom):
    """The greatest dyad that is not more than a fraction from 0 on."""
    if top == 0:
        return (0, 0)
    step, many, _, _ = stepped(format, top, bottom)
    if step > format.high:
        return ((1 << format.bits) - 1, format.high)
    return shaped(many, step)


def outward(format, top, bottom):
    """The least dyad that is not less than a fraction from 0 on."""
    if top == 0:
        return (0, 0)
    step, many, rest, _ = stepped(format, top, bottom)
    if step > format.high:
        raise Beyond()
    if rest == 0:
        return shaped(many, step)
    return shaped(one_more(format, many, step), step)


def one_more(format, many, step):
    """The next number of steps, if the format has it."""
    if step == format.high and many + 1 == 1 << format.bits:
        raise Beyond()
    return many + 1


def negated(dyad):
    return (-dyad[0], dyad[1])


def dyad_from(format, top, bottom):
    """The least dyad that is not less than a fraction, in whatever terms."""
    return outward(format, top, bottom) if top >= 0 else negated(inward(format, -top, bottom))


def dyad_to(format, top, bottom):
    """The greatest dyad that is not more than a fraction, in whatever terms."""
    return inward(format, top, bottom) if top >= 0 else negated(outward(format, -top, bottom))


def above(format, value):
    if not is_fraction(value):
        raise NoFraction()
    return dyad_from(format, value[0], value[1])


def below(format, value):
    if not is_fraction(value):
        raise NoFraction()
    return dyad_to(format, value[0], value[1])


def dyad_of(format, value):
    if not is_fraction(value):
        raise NoFraction()
    top, bottom = value
    if bottom & (bottom - 1) != 0:
        return None
    dyad = shaped(top, 1 - bottom.bit_length())
    return dyad if has(format, dyad) else None


def goes_outward(way, top, many, past_half):
    """Whether what lies between two dyads is rounded to the one further from nought.

    many tells how many steps the nearer to nought has; over is above 0, 0 or below 0
    where more than, just, or less than half a step lies behind it.
    """
    if way == "up":
        return top > 0
    if way == "down":
        return top < 0
    if way == "cut":
        return False
    if past_half != 0:
        return past_half > 0
    return way == "far" or many & 1 == 1


def settled(format, way, top, bottom):
    """A fraction, in whatever terms, rounded."""
    if top == 0:
        return (0, 0)
    step, many, rest, bottom = stepped(format, abs(top), bottom)
    if step > format.high:
        raise Beyond()
    if rest != 0:
        # The further neighbour must be there even where the nearer one is told.
        more = one_more(format, many, step)
        if goes_outward(way, top, many, 2 * rest - bottom):
            many = more
    dyad = shaped(many, step)
    return dyad if top > 0 else negated(dyad)


def rounded(format, value, way):
    if not is_fraction(value):
        raise NoFraction()
    if not is_way(way):
        raise NoWay()
    return settled(format, way, value[0], value[1])


def exact(word, one, other):
    """Top and bottom of what comes of two dyads by plus, minus, times or over."""
    (many, step), (others, steps) = one, other
    if word == "times":
        return parts((many * others, step + steps))
    if word == "over":
        if others == 0:
            raise Nought()
        top = many if others > 0 else -many
        return scaled(top, step - steps), scaled(abs(others), steps - step)
    if word == "minus":
        others = -others
    return parts((scaled(many, step - steps) + scaled(others, steps - step), min(step, steps)))


def worked(format, way, word, one, other):
    """The exact result of two dyads, rounded."""
    top, bottom = exact(word, one, other)
    return settled(format, way, top, bottom)


def asked(format, way, word, one, other):
    """The same of things that are perhaps no way, or no dyads of the format."""
    if not is_way(way):
        raise NoWay()
    if not has(format, one) or not has(format, other):
        raise NoDyad()
    return worked(format, way, word, one, other)


def plus(format, way, one, other):
    return asked(format, way, "plus", one, other)


def minus(format, way, one, other):
    return asked(format, way, "minus", one, other)


def times(format, way, one, other):
    return asked(format, way, "times", one, other)


def over(format, way, one, other):
    return asked(format, way, "over", one, other)
