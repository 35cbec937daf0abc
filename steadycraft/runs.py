"""Readings, and runs of a craft."""

from steadycraft.crafts import is_lever
from steadycraft.errors import NoRun
from steadycraft.kinds import is_between, is_integer, is_pair, is_tuple
from steadycraft.plants import is_place, is_push


def is_reading(craft, thing):
    """Whether a thing has the form of a reading."""
    _, high, told = craft.lengths
    many = len(craft.sensors)
    if not told:
        return are_counts(many, thing)
    if not is_tuple(many + 1, many + 1, thing) or not are_counts(many, thing[:many]):
        return False
    return is_between(0, high, thing[many])


def are_counts(many, thing):
    """Whether a thing is a tuple of an integer, or None, for each of so many sensors."""
    return is_tuple(many, many, thing) and all([item is None or is_integer(item) for item in thing])


def no_lacks(craft):
    """How often each sensor lacked in a row ahead of the first reading."""
    return (0,) * len(craft.sensors)


def lacks_behind(craft, lacks, reading):
    """How often each sensor lacked in a row, behind a reading; None if one lacks too often."""
    led_on = []
    for (_, _, most), many, count in zip(craft.sensors, lacks, reading):
        if count is None and many == most:
            return None
        led_on.append(many + 1 if count is None else 0)
    return tuple(led_on)


def fits(craft, place, reading):
    """Whether all counts of a reading, where they don't lack, are such of a place."""
    for (_, off, _), exact, count in zip(craft.sensors, craft.wholes(place), reading):
        if count is not None and not exact - off <= count <= exact + off:
            return False
    return True


def tells_length(craft, reading, length):
    """Whether the length in a reading is this one, where lengths are told."""
    return not craft.lengths[2] or reading[-1] == length


def are_pushes(craft, fewest, most, thing):
    return is_tuple(fewest, most, thing) and all([is_push(craft.plant, push) for push in thing])


def is_period(craft, last, thing):
    """Whether a thing has the form of a period: the last one may lack its row, and be cut short."""
    low, high, _ = craft.lengths
    if not is_tuple(3, 3, thing):
        return False
    reading, row, pushes = thing
    if not is_lever(craft, row) and not (last and row is None):
        return False
    return is_reading(craft, reading) and are_pushes(craft, 0 if last else low, high, pushes)


def has_run_form(craft, thing):
    """Whether a thing has the form of a run, whatever its readings tell."""
    if not is_pair(thing):
        return False
    start, periods = thing
    if not is_place(craft.plant, start) or start not in craft.starts:
        return False
    if not isinstance(periods, tuple) or len(periods) == 0:
        return False
    return all([is_period(craft, at == len(periods) - 1, period) for at, period in enumerate(periods)])


def is_run(craft, thing):
    if not has_run_form(craft, thing):
        return False
    lacks, length = no_lacks(craft), 0
    for (reading, _, pushes), places in zip(thing[1], walked_places(craft, thing)):
        if not fits(craft, places[0], reading) or not tells_length(craft, reading, length):
            return False
        lacks = lacks_behind(craft, lacks, reading)
        if lacks is None:
            return False
        length = len(pushes)
    return True


def walked_places(craft, run):
    """For each period the tuple of its places: that at its begin, and those behind its ticks."""
    place, periods = run
    row, found = 0, []
    for _, chosen, pushes in periods:
        places = [place]
        for push in pushes:
            place = craft.landing(place, row, push)
            places.append(place)
        found.append(tuple(places))
        row = chosen
    return tuple(found)


def places_of(craft, run):
    if not is_run(craft, run):
        raise NoRun()
    return walked_places(craft, run)
