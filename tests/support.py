"""What the tests share: slow reckonings by the document's own words, and things to judge."""

import bisect
import itertools
import operator
import random
import types
from fractions import Fraction

from steadycraft.crafts import Craft
from steadycraft.dyads import Format
from steadycraft.plants import Plant

WAYS = ("up", "down", "cut", "near", "far")
WORDS = ("plus", "minus", "times", "over", "least", "greatest")


# Dyads, by a list of all that a format has

def value(dyad):
    return Fraction(dyad[0]) * Fraction(2) ** dyad[1]


def pair(fraction):
    return (fraction.numerator, fraction.denominator)


def dyad(fraction):
    if fraction == 0:
        return (0, 0)
    many, step = fraction.numerator, 1 - fraction.denominator.bit_length()
    while many % 2 == 0:
        many, step = many // 2, step + 1
    return (many, step)


def all_values(format):
    found = set()
    for step in range(format.low, format.high + 1):
        for many in range(1 - 2 ** format.bits, 2 ** format.bits):
            found.add(Fraction(many) * Fraction(2) ** step)
    return sorted(found)


class Lacking(Exception):
    pass


class ByNought(Exception):
    pass


def above(values, exact):
    at = bisect.bisect_left(values, exact)
    if at == len(values):
        raise Lacking()
    return values[at]


def below(values, exact):
    at = bisect.bisect_right(values, exact)
    if at == 0:
        raise Lacking()
    return values[at - 1]


def rounded(values, exact, way):
    low, high = below(values, exact), above(values, exact)
    if low == high:
        return low
    if way in ("up", "down"):
        return high if way == "up" else low
    inner, outer = sorted((low, high), key=abs)
    if way == "cut":
        return inner
    if exact - low != high - exact:
        return low if exact - low < high - exact else high
    if way == "far":
        return outer
    even = [one for one in (low, high) if (one / (high - low)).denominator == 1 and one / (high - low) % 2 == 0]
    assert len(even) == 1
    return even[0]


def exact(word, one, other):
    if word == "over" and other == 0:
        raise ByNought()
    known = {"plus": operator.add, "minus": operator.sub, "times": operator.mul, "over": operator.truediv}
    known.update({"least": min, "greatest": max})
    return known[word](one, other)


def whole(fraction):
    return round(fraction)


def formula_value(values, way, formula, row):
    word = formula[0]
    if word == "in":
        return rounded(values, Fraction(row[formula[1]]), way)
    if word == "number":
        told = formula[1]
        return rounded(values, Fraction(*told) if isinstance(told, tuple) else Fraction(told), way)
    one = formula_value(values, way, formula[1], row)
    other = formula_value(values, way, formula[2], row)
    return rounded(values, exact(word, one, other), way)


def parts(formula):
    if formula[0] in ("in", "number"):
        return [formula]
    return parts(formula[1]) + parts(formula[2]) + [formula]


# The plant and the craft, place by place and push by push

def rows(spans):
    return list(itertools.product(*[range(low, high + 1) for low, high in spans]))


def is_inside(area, place):
    return any(all(low <= at <= high for at, (low, high) in zip(place, box)) for box in area)


def mode(plant, place):
    for number, (area, _) in enumerate(plant.modes):
        if area is None or is_inside(area, place):
            return number


def tick(plant, values, place, row, push):
    formulas = plant.modes[mode(plant, place)][1]
    inputs = place + (tuple(row) + (0,))[:2]
    goal = []
    for (low, high), formula, by in zip(plant.box, formulas, push):
        at = whole(formula_value(values, plant.way, formula, inputs)) + by
        goal.append(low if at < low else high if at > high else at)
    return tuple(goal)


class Slow:
    """A craft whose ticks are reckoned once for all places, rows and pushes."""

    def __init__(self, craft):
        self.craft = craft
        plant = craft.plant
        values = all_values(plant.form)
        self.places = rows(plant.box)
        self.pushes = rows(plant.pushes)
        self.goals = {}
        for place in self.places:
            for number, row in enumerate(craft.levers):
                for push in self.pushes:
                    self.goals[place, number, push] = tick(plant, values, place, row, push)
        self.exact = {place: [whole(formula_value(values, plant.way, formula, place))
                              for formula, _, _ in craft.sensors] for place in self.places}

    def after(self, lot, row):
        return tuple(sorted({self.goals[place, row, push] for place in lot for push in self.pushes}))

    def readings(self, place, lacks, length):
        choices = []
        for (_, off, most), many, exact_count in zip(self.craft.sensors, lacks, self.exact[place]):
            counts = list(range(exact_count - off, exact_count + off + 1))
            choices.append(([None] if many < most else []) + counts)
        if self.craft.lengths[2]:
            choices.append([length])
        return list(itertools.product(*choices))

    def walks(self, place, row, many):
        """Each (pushes, places) of so many ticks from a place."""
        found = [((), (place,))]
        for _ in range(many):
            found = [(pushes + (push,), places + (self.goals[places[-1], row, push],))
                     for pushes, places in found for push in self.pushes]
        return found


def lacks_behind(lacks, reading):
    return tuple(many + 1 if count is None else 0 for many, count in zip(lacks, reading))


# Wishes, by the definition of what breaks them

def breaks(wish, places, at):
    word, area = wish[0], wish[1]
    if word == "never":
        return is_inside(area, places[at])
    if word == "within":
        return at == wish[2] and not any(is_inside(area, place) for place in places[:at + 1])
    if word == "answered":
        other, k = wish[2], wish[3]
        if at < k or not is_inside(area, places[at - k]):
            return False
        return not any(is_inside(other, place) for place in places[at - k:at + 1])
    if word == "ahead":
        other = wish[2]
        return is_inside(other, places[at]) and not any(is_inside(area, place) for place in places[:at + 1])
    k = wish[2]
    return at >= k and not any(is_inside(area, place) for place in places[at - k:at + 1])


def broken(wishes, places):
    for at in range(len(places)):
        for number, wish in enumerate(wishes):
            if breaks(wish, places, at):
                return (at, number)
    return None


def count(wish, places):
    """The count behind these places, by what the document says of it; None from the first break on."""
    if any(breaks(wish, places, at) for at in range(len(places))):
        return None
    word, area, now = wish[0], wish[1], len(places) - 1
    inside = [is_inside(area, place) for place in places]
    if word == "never":
        return 0
    if word == "within":
        return -1 if any(inside) else now
    if word == "ahead":
        return 1 if any(inside) else 0
    if word == "answered":
        answers = [is_inside(wish[2], place) for place in places]
        waiting = [at for at in range(now + 1) if inside[at] and not any(answers[at:])]
        return now - waiting[0] + 1 if waiting else 0
    many = 0
    while many <= now and not inside[now - many]:
        many += 1
    return many


# Things to judge

def nested(kind, deep):
    thing = ()
    for _ in range(deep):
        thing = {"tuple": (thing,), "list": [thing], "dict": {1: thing}, "wide": (thing, 1, "in")}[kind]
    return thing


def junk():
    """Objects of the built-in kinds that 0.3 names, and of classes of the package."""
    some_format = Format(3, -2, 2)
    found = [None, True, False, 0, 1, -1, 2, 7, 10 ** 199, -(10 ** 199), "", "a", "in", "up", "never", "one two",
             "x" * 20000, b"", b"up", bytearray(b"up"), memoryview(b"up"), [], [1], [1, 2], (), (1,), (1, 2), (True,),
             (1, True), (0, 0), (2, 4), (1, 2, 3), ((),), ((1, 2),), [(1, 2)], {}, {1: 2}, {(1, 2): [3]}, range(3),
             slice(1, 2), Ellipsis, NotImplemented, int, tuple, type, len, junk, lambda thing: thing,
             iter([1]), iter(()), (item for item in ()), zip(), map(len, ()), {}.keys(), {1: 2}.items(),
             object(), ValueError("no"), KeyError, types.SimpleNamespace(), itertools,
             some_format, (some_format,), [some_format], Format, small_plant(), small_craft(),
             nested("tuple", 39), nested("list", 39), nested("dict", 39), nested("wide", 39),
             tuple(range(5000)), (("in", 0),) * 5000]
    return found


def small_plant():
    formulas = (("plus", ("in", 0), ("in", 1)),)
    return Plant(Format(6, -4, 4), "near", ((0, 4),), ((None, formulas),), ((0, 1),))


def small_craft():
    return Craft(small_plant(), ((0,), (-1,)), ((("in", 0), 0, 0),), (1, 1, False), ((2,),))


def paths(thing):
    """All places within nested tuples, as tuples of numbers."""
    found = [()]
    if isinstance(thing, tuple):
        for at, item in enumerate(thing):
            found += [(at,) + path for path in paths(item)]
    return found


def item_at(thing, path):
    for at in path:
        thing = thing[at]
    return thing


def replaced(thing, path, new):
    if not path:
        return new
    at = path[0]
    return thing[:at] + (replaced(thing[at], path[1:], new),) + thing[at + 1:]


def variants(thing):
    """What a thing at some place is changed to: alike things of other kinds, near ones, longer, shorter."""
    if isinstance(thing, bool):
        return [not thing, int(thing), None]
    if isinstance(thing, int):
        return [thing + 1, thing - 1, -thing, thing + 1000, thing - 100000, str(thing), (thing,), thing == 1, None]
    if isinstance(thing, str):
        return [thing + "s", thing[:-1], thing.upper(), thing.encode(), (thing,)]
    if isinstance(thing, tuple):
        found = [list(thing), thing + (0,), thing + thing, thing[:-1], thing[1:], thing[::-1], (), None, (thing,)]
        return found + [thing + thing[-1:]]
    return [0, ()]


def changed(thing, seed, many, odd_things=()):
    """So many things that are otherwise at one place than a thing."""
    chance = random.Random(seed)
    spots = paths(thing)
    found = []
    for _ in range(many):
        path = chance.choice(spots)
        choices = variants(item_at(thing, path)) + list(odd_things)
        found.append(replaced(thing, path, chance.choice(choices)))
    return found
