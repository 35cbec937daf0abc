"""Wishes: what places one behind another must keep, and counts of what is to be known of the past."""

from steadycraft.errors import NoRun, NoWish
from steadycraft.kinds import is_between, is_one_of, is_tuple
from steadycraft.plants import in_area, is_area
from steadycraft.runs import is_run, walked_places

WITH_OTHER = ("answered", "ahead")
WITH_K = ("within", "answered", "again")
WORDS = ("never", "within", "answered", "ahead", "again")


def is_wish(axes, thing):
    if not is_tuple(2, 4, thing) or not is_one_of(WORDS, thing[0]):
        return False
    ahead_of_k = 3 if thing[0] in WITH_OTHER else 2
    if thing[0] in WITH_K:
        if len(thing) != ahead_of_k + 1 or not is_between(1, 30, thing[ahead_of_k]):
            return False
    elif len(thing) != ahead_of_k:
        return False
    return all([is_area(axes, area) for area in thing[1:ahead_of_k]])


def are_wishes(plant, thing):
    return is_tuple(0, 4, thing) and all([is_wish(len(plant.box), wish) for wish in thing])


def marks(wishes, place):
    """For each wish whether a place is in its area, and whether it is in the other one."""
    found = []
    for wish in wishes:
        other = wish[0] in WITH_OTHER and in_area(wish[2], place)
        found.append((in_area(wish[1], place), other))
    return tuple(found)


def count_at_first(wish, inside, other):
    """The count at tick 0 of a place that is, or is not, in the wish's area, in the other one."""
    word = wish[0]
    if word == "never":
        return None if inside else 0
    if word == "within":
        return -1 if inside else 0
    if word == "answered":
        return 1 if inside and not other else 0
    if word == "ahead":
        return ahead_count(inside, other)
    return 0 if inside else 1


def ahead_count(inside, other):
    if inside:
        return 1
    return None if other else 0


def next_count(wish, count, inside, other):
    """The count at the next tick; None if the wish breaks there, or broke."""
    word = wish[0]
    if count is None:
        return None
    if word == "never":
        return None if inside else 0
    if word == "ahead":
        return 1 if count == 1 else ahead_count(inside, other)
    if word == "within":
        if inside or count == -1:
            return -1
        return unless_above(count + 1, wish[2] - 1)
    if word == "answered":
        return next_waiting(wish, count, inside, other)
    return 0 if inside else unless_above(count + 1, wish[2])


def next_waiting(wish, count, inside, other):
    if other:
        return 0
    if count > 0:
        return unless_above(count + 1, wish[3])
    return 1 if inside else 0


def unless_above(count, most):
    return None if count > most else count


def begun_by(wishes, marked):
    return tuple([count_at_first(wish, inside, other) for wish, (inside, other) in zip(wishes, marked)])


def counted_by(wishes, counts, marked):
    found = []
    for wish, count, (inside, other) in zip(wishes, counts, marked):
        found.append(next_count(wish, count, inside, other))
    return tuple(found)


def begun(wishes, place):
    return begun_by(wishes, marks(wishes, place))


def counted(wishes, counts, place):
    return counted_by(wishes, counts, marks(wishes, place))


def first_broken(counts):
    """The number of the first wish that broke, None if none did."""
    for number, count in enumerate(counts):
        if count is None:
            return number
    return None


def broken(wishes, places):
    counts = begun(wishes, places[0])
    for at, place in enumerate(places):
        if at > 0:
            counts = counted(wishes, counts, place)
        number = first_broken(counts)
        if number is not None:
            return at, number
    return None


def is_wish_itself(thing):
    """Whether a thing is a wish of some plant."""
    return any([is_wish(axes, thing) for axes in (1, 2, 3)])


def box_lies_within(box, other):
    if len(box) != len(other):
        return False
    return all([span[0] >= wide[0] and span[1] <= wide[1] for span, wide in zip(box, other)])


def lies_within(area, other):
    """Whether each box of an area lies within a box of another one."""
    return all([any([box_lies_within(box, wide) for wide in other]) for box in area])


def harder(one, other):
    if not is_wish_itself(one) or not is_wish_itself(other):
        raise NoWish()
    word = one[0]
    if word != other[0] or (word in WITH_K and one[-1] > other[-1]):
        return False
    if word == "never":
        return lies_within(other[1], one[1])
    if word == "answered":
        return lies_within(other[1], one[1]) and lies_within(one[2], other[2])
    if word == "ahead":
        return lies_within(one[1], other[1]) and lies_within(other[2], one[2])
    return lies_within(one[1], other[1])


def ticks_of(craft, run):
    """The places of a run tick by tick, and for each its (period, tick)."""
    places, spots = [run[0]], [(0, 0)]
    for period, walked in enumerate(walked_places(craft, run)):
        for at, place in enumerate(walked[1:]):
            places.append(place)
            spots.append((period, at + 1))
    return places, spots


def breaks_at(craft, wishes, run):
    if not is_run(craft, run):
        raise NoRun()
    places, spots = ticks_of(craft, run)
    found = broken(wishes, places)
    if found is None:
        return None
    at, number = found
    return spots[at] + (number,)


def is_breaking(craft, wishes, thing):
    if not is_run(craft, thing):
        return False
    places, _ = ticks_of(craft, thing)
    found = broken(wishes, places)
    return found is not None and found[0] == len(places) - 1
