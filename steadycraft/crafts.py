"""The craft: a plant with levers and sensors, and where ticks can lead."""

from steadycraft.errors import BadCraft, Beyond, NoBox, NoLever, NoLot, Nought
from steadycraft.formulas import is_formula, steps_over, whole_result
from steadycraft.kinds import ascending, is_between, is_flag, is_tuple, rows_of
from steadycraft.plants import Plant, aim, both_items, in_box, is_box, is_lever_row, is_place, kept_within
from steadycraft.plants import mode_of, pushed
from steadycraft.spans import wholes_between

MOST_COUNTED = 100000000


def are_levers(thing):
    if not is_tuple(1, 5, thing) or not all([is_lever_row(row) for row in thing]):
        return False
    if not all([len(row) == len(thing[0]) for row in thing]):
        return False
    return all([row not in thing[:at] for at, row in enumerate(thing)])


def is_sensor(axes, thing):
    if not is_tuple(3, 3, thing):
        return False
    formula, off, lacks = thing
    return is_formula(axes, formula) and is_between(0, 20, off) and is_between(0, 3, lacks)


def are_sensors(axes, thing):
    if not is_tuple(1, 3, thing) or not all([is_sensor(axes, sensor) for sensor in thing]):
        return False
    many = 1
    for _, off, lacks in thing:
        many = many * (2 * off + (2 if lacks > 0 else 1))
    return many <= 61


def are_lengths(thing):
    if not is_tuple(3, 3, thing):
        return False
    low, high, told = thing
    return is_between(1, 6, low) and is_between(low, 6, high) and is_flag(told)


def is_lot_of(plant, thing):
    """Whether a thing is an ascending tuple of places, perhaps empty."""
    if not isinstance(thing, tuple) or not all([is_place(plant, place) for place in thing]):
        return False
    return ascending(thing)


def aims_of(plant, levers):
    """For each lever row a dict from places to what formulas come to: BadCraft where they raise."""
    try:
        return tuple([{place: aim(plant, place, row) for place in rows_of(plant.box)} for row in levers])
    except (Nought, Beyond):
        raise BadCraft("levers") from None


def wholes_of(plant, sensors):
    """A dict from places to what each sensor's formula comes to: BadCraft where one raises."""
    form, way = plant.form, plant.way
    wholes = {}
    try:
        for place in rows_of(plant.box):
            wholes[place] = tuple([whole_result(form, way, formula, place) for formula, _, _ in sensors])
    except (Nought, Beyond):
        raise BadCraft("sensors") from None
    return wholes


def places_from(plant, aims):
    """The ascending tuple of the places to which any push leads."""
    spans = []
    for span, item, (low, high) in zip(plant.box, aims, plant.pushes):
        spans.append((kept_within(span, item + low), kept_within(span, item + high)))
    return tuple(rows_of(spans))


class Craft:
    """A plant, the lever rows and sensors of a device, how long periods last, and starts."""

    def __init__(self, plant, levers, sensors, lengths, starts):
        if not isinstance(plant, Plant):
            raise BadCraft("plant")
        if not are_levers(levers):
            raise BadCraft("levers")
        # What ticks and sensors come to is asked for again and again: it is kept.
        self._aims = aims_of(plant, levers)
        if not are_sensors(len(plant.box), sensors):
            raise BadCraft("sensors")
        self._wholes = wholes_of(plant, sensors)
        if not all([abs(whole) <= MOST_COUNTED for wholes in self._wholes.values() for whole in wholes]):
            raise BadCraft("sensors")
        if not are_lengths(lengths):
            raise BadCraft("lengths")
        if not is_lot_of(plant, starts) or len(starts) == 0:
            raise BadCraft("starts")
        self._nexts = [{place: places_from(plant, aims[place]) for place in aims} for aims in self._aims]
        self.plant = plant
        self.levers = levers
        self.sensors = sensors
        self.lengths = lengths
        self.starts = starts

    def __eq__(self, other):
        if not isinstance(other, Craft):
            return False
        if self.plant != other.plant or self.levers != other.levers or self.sensors != other.sensors:
            return False
        return self.lengths == other.lengths and self.starts == other.starts

    def nexts(self, place, row):
        """The ascending tuple of the places to which a tick leads by any push."""
        return self._nexts[row][place]

    def landing(self, place, row, push):
        """The place to which a tick leads by a push."""
        return pushed(self.plant, self._aims[row][place], push)

    def push_to(self, place, row, goal):
        """A push by which a tick leads to a goal; None if none does."""
        for push in rows_of(self.plant.pushes):
            if self.landing(place, row, push) == goal:
                return push
        return None

    def wholes(self, place):
        """What each sensor's formula comes to at a place."""
        return self._wholes[place]


def is_lot(craft, thing):
    return is_lot_of(craft.plant, thing)


def is_lever(craft, thing):
    """Whether a thing is the number of a lever row."""
    return is_between(0, len(craft.levers) - 1, thing)


def led_to(craft, lot, row):
    """The lot of all places to which ticks lead from a lot."""
    found = {}
    for place in lot:
        for goal in craft.nexts(place, row):
            found[goal] = True
    return tuple(sorted(found))


def check_lot(craft, lot, row):
    if not is_lot(craft, lot):
        raise NoLot()
    if not is_lever(craft, row):
        raise NoLever()


def after(craft, lot, row):
    check_lot(craft, lot, row)
    return led_to(craft, lot, row)


def ticks(craft, lot, row):
    check_lot(craft, lot, row)
    lots = []
    for _ in range(craft.lengths[1]):
        lot = led_to(craft, lot, row)
        lots.append(lot)
    return tuple(lots)


def places_in(craft, box):
    """The places of the plant in a box."""
    return [place for place in rows_of(craft.plant.box) if in_box(box, place)]


def check_box(craft, box, row):
    if not is_box(len(craft.plant.box), box) or len(places_in(craft, box)) == 0:
        raise NoBox()
    if not is_lever(craft, row):
        raise NoLever()


def box_about(rows):
    """The least box that holds one or more rows."""
    return tuple([(min(items), max(items)) for items in columns(rows)])


def columns(rows):
    return [[row[axis] for row in rows] for axis in range(len(rows[0]))]


def box_after(craft, box, row):
    check_box(craft, box, row)
    return box_about(led_to(craft, places_in(craft, box), row))


def framed(craft, box, row):
    check_box(craft, box, row)
    plant = craft.plant
    ranges = box + tuple([(item, item) for item in both_items(craft.levers[row])])
    corners = []
    for mode in sorted({mode_of(plant, place) for place in places_in(craft, box)}):
        spans = [aim_span(plant, formula, ranges) for formula in plant.modes[mode][1]]
        corners.append(tuple([low for low, _ in moved_spans(plant, spans)]))
        corners.append(tuple([high for _, high in moved_spans(plant, spans)]))
    return box_about(corners)


def aim_span(plant, formula, ranges):
    """Between which integers what a formula comes to is, by its enclosure."""
    return wholes_between(steps_over(plant.form, formula, ranges)[-1])


def moved_spans(plant, spans):
    """Pairs (low, high) for each axis, with pushes, moved to the ends of the plant's box."""
    lows = pushed(plant, [low for low, _ in spans], [low for low, _ in plant.pushes])
    highs = pushed(plant, [high for _, high in spans], [high for _, high in plant.pushes])
    return list(zip(lows, highs))
