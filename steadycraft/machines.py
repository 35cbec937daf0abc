"""Machines: points, and for each reading the row to choose and the point to go on at."""

from steadycraft.crafts import is_lever
from steadycraft.errors import NoChoice, NoMachine, NoReadings
from steadycraft.kinds import is_between, is_pair, is_tuple
from steadycraft.knowing import first
from steadycraft.nodes import Branches, is_choice_among
from steadycraft.runs import is_reading

MOST_POINTS = 4000


def is_machine(craft, thing):
    if not is_tuple(1, MOST_POINTS, thing):
        return False
    return all([is_machine_point(craft, len(thing), point) for point in thing])


def is_machine_point(craft, many, thing):
    """Whether a thing is a dict from readings to pairs (row, next), next one of so many points."""
    if not isinstance(thing, dict):
        return False
    for reading, answer in thing.items():
        if not is_reading(craft, reading) or not is_pair(answer):
            return False
        if not is_lever(craft, answer[0]) or not is_between(0, many - 1, answer[1]):
            return False
    return True


def check_machine(craft, machine):
    if not is_machine(craft, machine):
        raise NoMachine()


def rows_of(craft, machine, readings):
    check_machine(craft, machine)
    if not isinstance(readings, (list, tuple)) or not all([is_reading(craft, reading) for reading in readings]):
        raise NoReadings()
    point, rows = 0, []
    for reading in readings:
        if reading not in machine[point]:
            return rows
        row, point = machine[point][reading]
        rows.append(row)
    return rows


def machine_of(craft, wishes, choice):
    branches = Branches(craft, wishes, None, None)
    if not is_choice_among(branches, choice):
        raise NoChoice()
    return machine_among(branches, choice)


def machine_among(branches, choice):
    """The machine of a choice, in the game whose nodes follow each other by branches."""
    points = [(first(branches.craft, branches.wishes),)]
    numbers = {points[0]: 0}
    machine = []
    while len(machine) < len(points):
        answers = {}
        nodes = branches.behind(points[len(machine)])
        for reading in nodes:
            row = choice[nodes[reading]]
            point = branches.led(nodes[reading], row)
            if point not in numbers:
                numbers[point] = len(points)
                points.append(point)
            answers[reading] = (row, numbers[point])
        machine.append(answers)
    return tuple(machine)
