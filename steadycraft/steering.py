"""Steering: programs that tell machines by tables, and code that steers as a machine."""

from steadycraft.devices import is_device_reading
from steadycraft.errors import NoShape, TooMany
from steadycraft.knowing import reading_order
from steadycraft.machines import check_machine
from steadycraft.programs import Program
from steadycraft.running import first_of, undisturbed
from steadycraft.slimming import readings_to

MOST_READINGS = 2000
MOST_TRIPLES = 100000
POINT = "point"


def shape_of(craft):
    return len(craft.sensors), craft.lengths[2], len(craft.levers)


def readings_asked(craft, point):
    """The ascending list of the readings of a point that a device can have."""
    shape = shape_of(craft)
    found = [reading for reading in point if is_device_reading(shape, reading)]
    return sorted(found, key=reading_order)


def table_program(craft, machine):
    check_machine(craft, machine)
    if sum([len(point) for point in machine]) > MOST_READINGS:
        raise TooMany(MOST_READINGS)
    cases = []
    for number, point in enumerate(machine):
        readings = readings_asked(craft, point)
        if len(readings) > 0:
            cases.append((number, answering(len(craft.sensors), point, readings, 0)))
    body = choosing(("name", POINT), cases) if len(cases) > 0 else ()
    return Program(shape_of(craft), craft.plant.form, (POINT,), (), (), (body,), ())


def choosing(expression, cases):
    """A body that walks the body of the right case, where no other integer needs to be told apart."""
    if len(cases) == 1:
        return cases[0][1]
    return (("choose", expression, tuple(cases[:-1]), cases[-1][1]),)


def answering(sensors, point, readings, at):
    """A body that answers some readings, all alike ahead of an item; it tells apart only what it must."""
    if len(readings) == 1:
        row, behind = point[readings[0]]
        return (("row", ("number", row)), ("set", POINT, ("number", behind)))
    expression = ("count", at) if at < sensors else ("length",)
    groups = {}
    for reading in readings:
        groups.setdefault(reading[at], []).append(reading)
    bodies = {item: answering(sensors, point, groups[item], at + 1) for item in groups}
    lacking = bodies.pop(None, None)
    if len(bodies) == 0:
        return lacking
    counted = choosing(expression, list(bodies.items()))
    if lacking is None:
        return counted
    return (("if", ("same", ("lacks", at), ("number", 1)), lacking, counted),)


def check_steered(craft, machine, code):
    check_machine(craft, machine)
    if code.shape != shape_of(craft):
        raise NoShape()


def steers(craft, machine, code):
    return astray(craft, machine, code) is None


def astray(craft, machine, code):
    check_steered(craft, machine, code)
    asked = [readings_asked(craft, point) for point in machine]
    # Each triple with the one, and the reading, that led to it, as they are met.
    queue = [(0, first_of(code), 0)]
    origins = {queue[0]: None}
    at = 0
    while at < len(queue):
        point, stand, row = queue[at]
        for reading in asked[point]:
            lever, behind = machine[point][reading]
            period, word = undisturbed(code, stand, reading)
            if word != "done" or (row if period.row is None else period.row) != lever:
                return readings_to(origins, queue[at]) + (reading,)
            triple = (behind, period.stand(), lever)
            if triple not in origins:
                if len(queue) == MOST_TRIPLES:
                    raise TooMany(MOST_TRIPLES)
                origins[triple] = (queue[at], reading)
                queue.append(triple)
        at += 1
    return None
