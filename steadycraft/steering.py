"""Steering: programs that tell machines by tables, and code that steers as a machine."""

from steadycraft.devices import is_device_reading
from steadycraft.errors import NoShape, TooMany
from steadycraft.knowing import reading_order
from steadycraft.machines import check_machine
from steadycraft.programs import Program
from steadycraft.running import first_of, undisturbed
from steadycraft.slimming import readings_to

MOST_READINGS = 2000
MOST_TRIPLES = 100000
# A point is told by two numbers where there are many, so that few cases are compared with each.
POINT = "point"
GROUP = "group"
MOST_IN_GROUP = 64


def shape_of(craft):
    return len(craft.sensors), craft.lengths[2], len(craft.levers)


def readings_asked(craft, point):
    """The ascending list of the readings of a point that a device can have."""
    shape = shape_of(craft)
    found = [reading for reading in point if is_device_reading(shape, reading)]
    return sorted(found, key=reading_order)


def table_program(craft, machine):
    check_machine(craft, machine)
    if sum([len(point) for point in machine]) > MOST_READINGS:
        raise TooMany(MOST_READINGS)
    table = Table(craft, machine)
    return Program(shape_of(craft), craft.plant.form, table.names, (), (), (table.body(),), ())


class Table:
    """The bodies by which a program answers as a machine."""

    def __init__(self, craft, machine):
        self._craft = craft
        self._machine = machine
        self.names = (POINT,) if len(machine) <= MOST_IN_GROUP else (GROUP, POINT)

    def body(self):
        groups = {}
        for number, point in enumerate(self._machine):
            readings = readings_asked(self._craft, point)
            if len(readings) > 0:
                group, rest = divmod(number, MOST_IN_GROUP)
                groups.setdefault(group, []).append((rest, self.answering(point, readings, 0)))
        if len(groups) == 0:
            return ()
        return choosing(("name", GROUP), [(group, choosing(("name", POINT), groups[group])) for group in groups])

    def going_on(self, behind):
        """Statements by which the next period begins at a point."""
        group, rest = divmod(behind, MOST_IN_GROUP)
        found = (("set", POINT, ("number", rest)),)
        return found if GROUP not in self.names else found + (("set", GROUP, ("number", group)),)

    def answering(self, point, readings, at):
        """A body that answers some readings, all alike ahead of an item; it tells apart only what it must."""
        if len(readings) == 1:
            row, behind = point[readings[0]]
            return (("row", ("number", row)),) + self.going_on(behind)
        expression = ("count", at) if at < len(self._craft.sensors) else ("length",)
        groups = {}
        for reading in readings:
            groups.setdefault(reading[at], []).append(reading)
        bodies = {item: self.answering(point, groups[item], at + 1) for item in groups}
        lacking = bodies.pop(None, None)
        if len(bodies) == 0:
            return lacking
        counted = choosing(expression, list(bodies.items()))
        if lacking is None:
            return counted
        return (("if", ("same", ("lacks", at), ("number", 1)), lacking, counted),)


def choosing(expression, cases):
    """A body that walks the body of the right case, where no other integer needs to be told apart."""
    if len(cases) == 1:
        return cases[0][1]
    return (("choose", expression, tuple(cases[:-1]), cases[-1][1]),)


def check_steered(craft, machine, code):
    check_machine(craft, machine)
    if code.shape != shape_of(craft):
        raise NoShape()


def steers(craft, machine, code):
    return astray(craft, machine, code) is None


def astray(craft, machine, code):
    check_steered(craft, machine, code)
    asked = [readings_asked(craft, point) for point in machine]
    # Each triple with the one, and the reading, that led to it, as they are met.
    queue = [(0, first_of(code), 0)]
    origins = {queue[0]: None}
    at = 0
    while at < len(queue):
        point, stand, row = queue[at]
        for reading in asked[point]:
            lever, behind = machine[point][reading]
            period, word = undisturbed(code, stand, reading)
            if word != "done" or (row if period.row is None else period.row) != lever:
                return readings_to(origins, queue[at]) + (reading,)
            triple = (behind, period.stand(), lever)
            if triple not in origins:
                if len(queue) == MOST_TRIPLES:
                    raise TooMany(MOST_TRIPLES)
                origins[triple] = (queue[at], reading)
                queue.append(triple)
        at += 1
    return None
