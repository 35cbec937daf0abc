"""What the tests share: slow reckonings by the document's own words, and things to judge."""

import bisect
import itertools
import operator
import random
import types
from fractions import Fraction

from steadycraft.crafts import Craft
from steadycraft.dyads import Format
from steadycraft.errors import BadCraft
from steadycraft.plants import Plant

WAYS = ("up", "down", "cut", "near", "far")
WORDS = ("plus", "minus", "times", "over", "least", "greatest")


# Dyads, by a list of all that a format has

def value(dyad):
    return Fraction(dyad[0]) * Fraction(2) ** dyad[1]


def pair(fraction):
    return (fraction.numerator, fraction.denominator)


def dyad(fraction):
    if fraction == 0:
        return (0, 0)
    many, step = fraction.numerator, 1 - fraction.denominator.bit_length()
    while many % 2 == 0:
        many, step = many // 2, step + 1
    return (many, step)


def all_values(format):
    found = set()
    for step in range(format.low, format.high + 1):
        for many in range(1 - 2 ** format.bits, 2 ** format.bits):
            found.add(Fraction(many) * Fraction(2) ** step)
    return sorted(found)


class Lacking(Exception):
    pass


class ByNought(Exception):
    pass


def above(values, exact):
    at = bisect.bisect_left(values, exact)
    if at == len(values):
        raise Lacking()
    return values[at]


def below(values, exact):
    at = bisect.bisect_right(values, exact)
    if at == 0:
        raise Lacking()
    return values[at - 1]


def rounded(values, exact, way):
    low, high = below(values, exact), above(values, exact)
    if low == high:
        return low
    if way in ("up", "down"):
        return high if way == "up" else low
    inner, outer = sorted((low, high), key=abs)
    if way == "cut":
        return inner
    if exact - low != high - exact:
        return low if exact - low < high - exact else high
    if way == "far":
        return outer
    even = [one for one in (low, high) if (one / (high - low)).denominator == 1 and one / (high - low) % 2 == 0]
    assert len(even) == 1
    return even[0]


def exact(word, one, other):
    if word == "over" and other == 0:
        raise ByNought()
    known = {"plus": operator.add, "minus": operator.sub, "times": operator.mul, "over": operator.truediv}
    known.update({"least": min, "greatest": max})
    return known[word](one, other)


def whole(fraction):
    return round(fraction)


def formula_value(values, way, formula, row):
    word = formula[0]
    if word == "in":
        return rounded(values, Fraction(row[formula[1]]), way)
    if word == "number":
        told = formula[1]
        return rounded(values, Fraction(*told) if isinstance(told, tuple) else Fraction(told), way)
    one = formula_value(values, way, formula[1], row)
    other = formula_value(values, way, formula[2], row)
    return rounded(values, exact(word, one, other), way)


def parts(formula):
    if formula[0] in ("in", "number"):
        return [formula]
    return parts(formula[1]) + parts(formula[2]) + [formula]


def some_formula(chance, inputs, many):
    if many == 0:
        if chance.random() < 0.6 and inputs:
            return ("in", chance.randrange(inputs))
        if chance.random() < 0.5:
            return ("number", chance.randint(-6, 6))
        return ("number", pair(Fraction(chance.randint(-9, 9), chance.randint(1, 9))))
    cut = chance.randrange(many)
    return (chance.choice(WORDS), some_formula(chance, inputs, cut), some_formula(chance, inputs, many - 1 - cut))


# The plant and the craft, place by place and push by push

def rows(spans):
    return list(itertools.product(*[range(low, high + 1) for low, high in spans]))


def is_inside(area, place):
    return any(all(low <= at <= high for at, (low, high) in zip(place, box)) for box in area)


def mode(plant, place):
    for number, (area, _) in enumerate(plant.modes):
        if area is None or is_inside(area, place):
            return number


def tick(plant, values, place, row, push):
    formulas = plant.modes[mode(plant, place)][1]
    inputs = place + (tuple(row) + (0,))[:2]
    goal = []
    for (low, high), formula, by in zip(plant.box, formulas, push):
        at = whole(formula_value(values, plant.way, formula, inputs)) + by
        goal.append(low if at < low else high if at > high else at)
    return tuple(goal)


class Slow:
    """A craft whose ticks are reckoned once for all places, rows and pushes."""

    def __init__(self, craft):
        self.craft = craft
        plant = craft.plant
        values = all_values(plant.form)
        self.places = rows(plant.box)
        self.pushes = rows(plant.pushes)
        self.goals = {}
        for place in self.places:
            for number, row in enumerate(craft.levers):
                for push in self.pushes:
                    self.goals[place, number, push] = tick(plant, values, place, row, push)
        self.exact = {place: [whole(formula_value(values, plant.way, formula, place))
                              for formula, _, _ in craft.sensors] for place in self.places}

    def after(self, lot, row):
        return tuple(sorted({self.goals[place, row, push] for place in lot for push in self.pushes}))

    def readings(self, place, lacks, length):
        choices = []
        for (_, off, most), many, exact_count in zip(self.craft.sensors, lacks, self.exact[place]):
            counts = list(range(exact_count - off, exact_count + off + 1))
            choices.append(([None] if many < most else []) + counts)
        if self.craft.lengths[2]:
            choices.append([length])
        return list(itertools.product(*choices))

    def walks(self, place, row, many):
        """Each (pushes, places) of so many ticks from a place."""
        found = [((), (place,))]
        for _ in range(many):
            found = [(pushes + (push,), places + (self.goals[places[-1], row, push],))
                     for pushes, places in found for push in self.pushes]
        return found


def lacks_behind(lacks, reading):
    return tuple(many + 1 if count is None else 0 for many, count in zip(lacks, reading))


# Wishes, by the definition of what breaks them

def breaks(wish, places, at):
    word, area = wish[0], wish[1]
    if word == "never":
        return is_inside(area, places[at])
    if word == "within":
        return at == wish[2] and not any(is_inside(area, place) for place in places[:at + 1])
    if word == "answered":
        other, k = wish[2], wish[3]
        if at < k or not is_inside(area, places[at - k]):
            return False
        return not any(is_inside(other, place) for place in places[at - k:at + 1])
    if word == "ahead":
        other = wish[2]
        return is_inside(other, places[at]) and not any(is_inside(area, place) for place in places[:at + 1])
    k = wish[2]
    return at >= k and not any(is_inside(area, place) for place in places[at - k:at + 1])


def broken(wishes, places):
    for at in range(len(places)):
        for number, wish in enumerate(wishes):
            if breaks(wish, places, at):
                return (at, number)
    return None


def count(wish, places):
    """The count behind these places, by what the document says of it; None from the first break on."""
    if any(breaks(wish, places, at) for at in range(len(places))):
        return None
    word, area, now = wish[0], wish[1], len(places) - 1
    inside = [is_inside(area, place) for place in places]
    if word == "never":
        return 0
    if word == "within":
        return -1 if any(inside) else now
    if word == "ahead":
        return 1 if any(inside) else 0
    if word == "answered":
        answers = [is_inside(wish[2], place) for place in places]
        waiting = [at for at in range(now + 1) if inside[at] and not any(answers[at:])]
        return now - waiting[0] + 1 if waiting else 0
    many = 0
    while many <= now and not inside[now - many]:
        many += 1
    return many


# Crafts, wishes and runs by chance

def some_box(chance, box):
    """A box that lies more or less about another one."""
    spans = []
    for low, high in box:
        start = chance.randint(low - 1, high)
        spans.append((start, chance.randint(start, high + 1)))
    return tuple(spans)


def some_area(chance, box):
    return tuple(some_box(chance, box) for _ in range(chance.choice((0, 1, 1, 1, 2))))


def some_plant(chance, most_places=12):
    axes = chance.choice((1, 1, 2, 3))
    box = ()
    while not box or len(rows(box)) > most_places:
        box = tuple((low, low + chance.randint(0, 5)) for low in [chance.randint(-3, 3) for _ in range(axes)])
    modes = []
    for at in range(chance.choice((1, 1, 2, 3))):
        formulas = tuple(moving_formula(chance, axes, axis) for axis in range(axes))
        modes.append((some_area(chance, box), formulas))
    modes[-1] = (None, modes[-1][1])
    pushes = tuple((low, low + chance.choice((0, 1, 1, 2))) for low in [chance.randint(-1, 0) for _ in range(axes)])
    format = Format(chance.randint(4, 6), chance.randint(-3, 0), chance.randint(1, 3))
    return Plant(format, chance.choice(WAYS), box, tuple(modes), pushes)


def moving_formula(chance, axes, axis):
    if chance.random() < 0.2:
        return some_formula(chance, axes + 2, chance.randint(0, 3))
    word = chance.choice(("plus", "plus", "minus"))
    return (word, ("in", axis), some_formula(chance, axes + 2, chance.randint(0, 1)))


def some_craft(chance, most_places=12, lengths=None):
    for _ in range(1000):
        plant = some_plant(chance, most_places)
        axes, items = len(plant.box), chance.randint(1, 2)
        levers = {tuple(chance.randint(-2, 2) for _ in range(items)) for _ in range(chance.randint(1, 3))}
        sensors = tuple((some_formula(chance, axes, chance.choice((0, 0, 1))), chance.choice((0, 0, 1)),
                         chance.choice((0, 0, 1, 2))) for _ in range(chance.choice((1, 1, 2))))
        low = chance.randint(1, 2)
        told = (low, chance.randint(low, 3), chance.random() < 0.5) if lengths is None else lengths
        starts = sorted(chance.sample(rows(plant.box), chance.randint(1, min(3, len(rows(plant.box))))))
        try:
            return Craft(plant, tuple(sorted(levers)), sensors, told, tuple(starts))
        except BadCraft:
            pass
    raise AssertionError("each craft by chance is told to be a bad one")


def some_wish(chance, plant, most_k=4):
    areas, k = [some_area(chance, plant.box) for _ in range(2)], chance.randint(1, most_k)
    return chance.choice([("never", areas[0]), ("within", areas[0], k), ("answered", areas[0], areas[1], k),
                          ("ahead", areas[0], areas[1]), ("again", areas[0], k)])


def some_wishes(chance, plant, most_k=4):
    return tuple(some_wish(chance, plant, most_k) for _ in range(chance.randint(0, 4)))


def some_run(chance, slow, many):
    """A run of so many periods, the last one perhaps cut short."""
    craft = slow.craft
    low, high, told = craft.lengths
    place = start = chance.choice(craft.starts)
    lacks, length, row, periods = (0,) * len(craft.sensors), 0, 0, []
    for at in range(many):
        reading = chance.choice(slow.readings(place, lacks, length))
        lacks = lacks_behind(lacks, reading)
        length = chance.randint(low if at < many - 1 else 0, high)
        pushes = tuple(chance.choice(slow.pushes) for _ in range(length))
        chosen = chance.randrange(len(craft.levers))
        for push in pushes:
            place = slow.goals[place, row, push]
        periods.append((reading, None if at == many - 1 and chance.random() < 0.5 else chosen, pushes))
        row = chosen
    return (start, tuple(periods))


# Things to judge

def nested(kind, deep):
    thing = ()
    for _ in range(deep):
        thing = {"tuple": (thing,), "list": [thing], "dict": {1: thing}, "wide": (thing, 1, "in")}[kind]
    return thing


def junk():
    """Objects of the built-in kinds that 0.3 names, and of classes of the package."""
    some_format = Format(3, -2, 2)
    found = [None, True, False, 0, 1, -1, 2, 7, 10 ** 199, -(10 ** 199), "", "a", "in", "up", "never", "one two",
             "x" * 20000, b"", b"up", bytearray(b"up"), memoryview(b"up"), [], [1], [1, 2], (), (1,), (1, 2), (True,),
             (1, True), (0, 0), (2, 4), (1, 2, 3), ((),), ((1, 2),), [(1, 2)], {}, {1: 2}, {(1, 2): [3]}, range(3),
             slice(1, 2), Ellipsis, NotImplemented, int, tuple, type, len, junk, lambda thing: thing,
             iter([1]), iter(()), (item for item in ()), zip(), map(len, ()), {}.keys(), {1: 2}.items(),
             object(), ValueError("no"), KeyError, types.SimpleNamespace(), itertools,
             some_format, (some_format,), [some_format], Format, small_plant(), small_craft(),
             nested("tuple", 39), nested("list", 39), nested("dict", 39), nested("wide", 39),
             tuple(range(5000)), (("in", 0),) * 5000]
    return found


def small_plant():
    formulas = (("plus", ("in", 0), ("in", 1)),)
    return Plant(Format(6, -4, 4), "near", ((0, 4),), ((None, formulas),), ((0, 1),))


def small_craft():
    return Craft(small_plant(), ((0,), (-1,)), ((("in", 0), 0, 0),), (1, 1, False), ((2,),))


def paths(thing):
    """All places within nested tuples, as tuples of numbers."""
    found = [()]
    if isinstance(thing, tuple):
        for at, item in enumerate(thing):
            found += [(at,) + path for path in paths(item)]
    return found


def item_at(thing, path):
    for at in path:
        thing = thing[at]
    return thing


def replaced(thing, path, new):
    if not path:
        return new
    at = path[0]
    return thing[:at] + (replaced(thing[at], path[1:], new),) + thing[at + 1:]


def variants(thing):
    """What a thing at some place is changed to: alike things of other kinds, near ones, longer, shorter."""
    if isinstance(thing, bool):
        return [not thing, int(thing), None]
    if isinstance(thing, int):
        return [thing + 1, thing - 1, -thing, thing + 1000, thing - 100000, str(thing), (thing,), thing == 1, None]
    if isinstance(thing, str):
        return [thing + "s", thing[:-1], thing.upper(), thing.encode(), (thing,)]
    if isinstance(thing, tuple):
        found = [list(thing), thing + (0,), thing + thing, thing[:-1], thing[1:], thing[::-1], (), None, (thing,)]
        return found + [thing + thing[-1:]]
    return [0, ()]


def changed(thing, seed, many, odd_things=()):
    """So many things that are otherwise at one place than a thing."""
    chance = random.Random(seed)
    spots = paths(thing)
    found = []
    for _ in range(many):
        path = chance.choice(spots)
        choices = variants(item_at(thing, path)) + list(odd_things)
        found.append(replaced(thing, path, chance.choice(choices)))
    return found
