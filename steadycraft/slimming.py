"""Slim machines: points that are made one, and machines that do another one's work."""

from steadycraft.errors import NoPoint
from steadycraft.kinds import is_between
from steadycraft.knowing import reading_order
from steadycraft.machines import check_machine, is_machine


class Joints:
    """The points of a machine, some of them made one: the least of these stands for all."""

    def __init__(self, machine):
        self._leasts = list(range(len(machine)))
        # For a least point the answers of all that became one with it; next ones as in the machine.
        self._answers = list(machine)

    def least(self, point):
        while self._leasts[point] != point:
            # Halves the way for whoever asks next.
            self._leasts[point] = self._leasts[self._leasts[point]]
            point = self._leasts[point]
        return point

    def ends(self):
        """The points that stand for all."""
        return [point for point, least in enumerate(self._leasts) if point == least]

    def joined(self, one, other):
        """What becomes otherwise if two points are made one; None if that can't be done.

        The result is a pair of dicts, from points to lesser ones that they become one with,
        and from these to their answers.
        """
        leasts, answers = {}, {}
        todo = [(one, other)]
        while len(todo) > 0:
            one, other = todo.pop()
            one, other = self._least_by(leasts, one), self._least_by(leasts, other)
            if one != other:
                low, high = min(one, other), max(one, other)
                both = united(self._answers_by(answers, low), self._answers_by(answers, high), todo)
                if both is None:
                    return None
                leasts[high] = low
                answers[low] = both
        return leasts, answers

    def _least_by(self, leasts, point):
        point = self.least(point)
        while point in leasts:
            point = self.least(leasts[point])
        return point

    def _answers_by(self, answers, point):
        return answers[point] if point in answers else self._answers[point]

    def make_one(self, one, other):
        """Makes two points one if that can be done; whether it was."""
        otherwise = self.joined(one, other)
        if otherwise is None:
            return False
        leasts, answers = otherwise
        for point, least in leasts.items():
            self._leasts[point] = least
        for point, both in answers.items():
            self._answers[point] = both
        return True

    def machine(self):
        """The machine that comes of the points that stand for all, closed up in their order."""
        numbers = {point: number for number, point in enumerate(self.ends())}
        found = []
        for point in numbers:
            answers = self._answers[point]
            found.append({reading: (answers[reading][0], numbers[self.least(answers[reading][1])])
                          for reading in answers})
        return tuple(found)


def united(answers, others, todo):
    """The answers of both; None if rows are unlike. Next ones that become one are put into todo."""
    for reading in others:
        if reading in answers and answers[reading][0] != others[reading][0]:
            return None
    both = {reading: answers[reading] for reading in answers}
    for reading in others:
        if reading not in both:
            both[reading] = others[reading]
        elif both[reading][1] != others[reading][1]:
            todo.append((both[reading][1], others[reading][1]))
    return both


def check_points(craft, machine, one, other):
    check_machine(craft, machine)
    for point in (one, other):
        if not is_between(0, len(machine) - 1, point):
            raise NoPoint()


def joined(craft, machine, one, other):
    check_points(craft, machine, one, other)
    joints = Joints(machine)
    return joints.machine() if joints.make_one(one, other) else None


def slim(craft, machine):
    check_machine(craft, machine)
    joints = Joints(machine)
    # Two points that can't be joined can't later either, so each two are asked once.
    ends = []
    for point in range(len(machine)):
        if joints.least(point) == point and not joins_one(joints, ends, point):
            ends.append(point)
    return joints.machine()


def joins_one(joints, ends, point):
    """Whether a point could be joined, and was, with the first of some others with which it can."""
    for end in ends:
        if joints.least(end) == end and joints.make_one(end, point):
            return True
    return False


def clash(craft, machine, one, other):
    check_points(craft, machine, one, other)
    ordered = [sorted(list(answers), key=reading_order) for answers in machine]
    # Each pair of points with the pair and the reading that led to it, as they are met.
    origins = {(one, other): None}
    pairs = [] if one == other else [(one, other)]
    at = 0
    while at < len(pairs):
        one, other = pairs[at]
        for reading in ordered[one]:
            if reading in machine[other]:
                (row, behind), (rows, others) = machine[one][reading], machine[other][reading]
                if row != rows:
                    return readings_to(origins, pairs[at]) + (reading,)
                pair = (min(behind, others), max(behind, others))
                if behind != others and pair not in origins:
                    origins[pair] = (pairs[at], reading)
                    pairs.append(pair)
        at += 1
    return None


def readings_to(origins, pair):
    """The readings along which a pair was met."""
    found = []
    while origins[pair] is not None:
        pair, reading = origins[pair]
        found.append(reading)
    return tuple(found[::-1])


def does_work(craft, machine, thing):
    check_machine(craft, machine)
    return is_machine(craft, thing) and works_as(machine, thing)


def works_as(machine, other):
    """Whether another machine has all answers that a machine has, and the same rows."""
    pairs = [(0, 0)]
    met = {(0, 0): True}
    while len(pairs) > 0:
        point, others = pairs.pop()
        for reading, (row, behind) in machine[point].items():
            if reading not in other[others] or other[others][reading][0] != row:
                return False
            pair = (behind, other[others][reading][1])
            if pair not in met:
                met[pair] = True
                pairs.append(pair)
    return True


def is_slim(craft, machine, thing):
    return does_work(craft, machine, thing) and not has_joint(thing)


def has_joint(machine):
    """Whether some two points of a machine can be joined."""
    joints = Joints(machine)
    for one in range(len(machine)):
        for other in range(one + 1, len(machine)):
            if joints.joined(one, other) is not None:
                return True
    return False
