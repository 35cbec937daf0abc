"""The plant: places in a box, and the ticks by which the world moves from one to another."""

from steadycraft.dyads import Format, is_way
from steadycraft.errors import BadPlant, NoPlace, NoPush, NoRow
from steadycraft.formulas import is_formula, whole_result
from steadycraft.kinds import are_spans, is_integer, is_pair, is_row, is_row_of, is_tuple, many_rows


def is_box(axes, thing):
    return are_spans(axes, axes, -1000, 1000, thing)


def is_area(axes, thing):
    return is_tuple(0, 6, thing) and all([is_box(axes, box) for box in thing])


def in_box(box, place):
    return all([low <= item <= high for item, (low, high) in zip(place, box)])


def in_area(area, place):
    return any([in_box(box, place) for box in area])


def is_in(area, place):
    if not isinstance(place, tuple) or not all([is_integer(item) for item in place]):
        return False
    return any([len(box) == len(place) and in_box(box, place) for box in area])


def is_mode(axes, last, thing):
    """Whether a thing is a mode: for the last one without an area, for others with one."""
    if not is_pair(thing):
        return False
    area, formulas = thing
    if last and area is not None or not last and not is_area(axes, area):
        return False
    return is_tuple(axes, axes, formulas) and all([is_formula(axes + 2, formula) for formula in formulas])


def are_modes(axes, thing):
    if not is_tuple(1, 4, thing):
        return False
    return all([is_mode(axes, at == len(thing) - 1, mode) for at, mode in enumerate(thing)])


class Plant:
    """A box of places, and what moves from one to the next: formulas by modes, and pushes."""

    def __init__(self, form, way, box, modes, pushes):
        if not isinstance(form, Format):
            raise BadPlant("form")
        if not is_way(way):
            raise BadPlant("way")
        if not are_spans(1, 3, -1000, 1000, box) or many_rows(box) > 400:
            raise BadPlant("box")
        if not are_modes(len(box), modes):
            raise BadPlant("modes")
        if not are_spans(len(box), len(box), -20, 20, pushes) or many_rows(pushes) > 81:
            raise BadPlant("pushes")
        self.form = form
        self.way = way
        self.box = box
        self.modes = modes
        self.pushes = pushes

    def __eq__(self, other):
        if not isinstance(other, Plant):
            return False
        if self.form != other.form or self.way != other.way or self.box != other.box:
            return False
        return self.modes == other.modes and self.pushes == other.pushes


def is_place(plant, thing):
    return is_row_of(plant.box, thing)


def is_push(plant, thing):
    return is_row_of(plant.pushes, thing)


def is_lever_row(thing):
    return is_row(1, 2, -100, 100, thing)


def mode_of(plant, place):
    """The number of the first mode whose area holds a place, or of the last one."""
    for number, (area, _) in enumerate(plant.modes[:-1]):
        if in_area(area, place):
            return number
    return len(plant.modes) - 1


def both_items(row):
    """The two items of a lever row: one that is not there counts as 0."""
    return row if len(row) == 2 else row + (0,)


def aim(plant, place, row):
    """What the formulas of the mode that counts come to, axis by axis."""
    _, formulas = plant.modes[mode_of(plant, place)]
    inputs = place + both_items(row)
    return tuple([whole_result(plant.form, plant.way, formula, inputs) for formula in formulas])


def kept_within(span, item):
    """An integer, moved to the nearest end of (low, high) if it is beyond."""
    low, high = span
    return max(low, min(item, high))


def pushed(plant, aims, push):
    """The place that comes of what formulas came to, and a push."""
    moved = [item + by for item, by in zip(aims, push)]
    return tuple([kept_within(span, item) for span, item in zip(plant.box, moved)])


def tick(plant, place, row, push):
    if not is_place(plant, place):
        raise NoPlace()
    if not is_lever_row(row):
        raise NoRow()
    if not is_push(plant, push):
        raise NoPush()
    return pushed(plant, aim(plant, place, row), push)


def mode_at(plant, place):
    if not is_place(plant, place):
        raise NoPlace()
    return mode_of(plant, place)
