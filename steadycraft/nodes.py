"""Nodes of the game of what can be known: what is known behind a reading, and what can follow it."""

from steadycraft.boxing import boxes_about
from steadycraft.crafts import is_lever
from steadycraft.errors import NoLever, NoNode, TooMany
from steadycraft.kinds import rows_of
from steadycraft.knowing import Step, broken_first, first, is_knowledge, led_on_by, reading_order, readings_from
from steadycraft.plants import in_box
from steadycraft.runs import lacks_behind


class Branches:
    """What follows what is known, by ticks and by readings: what was worked out is kept.

    With a number k what is known behind a reading is made greater by so many boxes.
    With a number most TooMany is raised where more standings can be known ahead of one.
    """

    def __init__(self, craft, wishes, k, most):
        self.craft = craft
        self.wishes = wishes
        self._k = k
        self._most = most
        self._steps = [Step(craft, wishes, row) for row in range(len(craft.levers))]
        self._readings = {}
        self._lots = {}
        self._greater = {}

    def readings_from(self, place, lacks, length):
        key = (place, lacks, length)
        if key not in self._readings:
            self._readings[key] = readings_from(self.craft, place, lacks, length)
        return self._readings[key]

    def greater(self, standings):
        """What is known behind a reading, made greater where boxes are asked for."""
        if self._k is None:
            return standings
        if standings not in self._greater:
            self._greater[standings] = widened(standings, self._k)
        return self._greater[standings]

    def bases(self, lacks, length, standings):
        """For each reading that can come, ascending, the pair of it and the node behind it but for its row."""
        left = {}
        for standing in standings:
            for reading in self.readings_from(standing[0], lacks, length):
                left.setdefault(reading, []).append(standing)
        found = []
        for reading in sorted(list(left), key=reading_order):
            led_on = lacks_behind(self.craft, lacks, reading)
            found.append((reading, (led_on, length, self.greater(tuple(left[reading])))))
        return found

    def behind(self, knowledges):
        """A dict from the readings that can come, ascending, to the nodes behind them."""
        found = {}
        for row, lacks, length, standings in knowledges:
            for reading, base in self.bases(lacks, length, standings):
                found[reading] = (row,) + base
        return {reading: found[reading] for reading in sorted(list(found), key=reading_order)}

    def lots(self, row, standings):
        """The pairs (length, standings) that can be at the next begin; None if a wish can break ahead of it."""
        key = (row, standings)
        if key not in self._lots:
            self._lots[key] = self._lots_behind(row, standings)
        return self._lots[key]

    def _lots_behind(self, row, standings):
        layers = self._layers(row, standings)
        if layers is None:
            return None
        low, high, told = self.craft.lengths
        if told:
            return [(length, self._lot([layers[length - 1]])) for length in range(low, high + 1)]
        return [(None, self._lot(layers[low - 1:]))]

    def _layers(self, row, standings):
        """For each tick of the longest period a list of standings; None if a wish can break at one."""
        step, layer, layers = self._steps[row], list(standings), []
        for _ in range(self.craft.lengths[1]):
            further = {}
            for standing in layer:
                unbroken = step.unbroken_behind(standing)
                if unbroken is None:
                    return None
                for behind in unbroken:
                    further[behind] = True
            layer = list(further)
            layers.append(layer)
        return layers

    def _lot(self, layers):
        found = {}
        for layer in layers:
            for standing in layer:
                found[standing] = True
        if self._most is not None and len(found) > self._most:
            raise TooMany(self._most)
        return tuple(sorted(list(found)))

    def is_lost(self, node):
        return self.lots(node[0], node[3]) is None

    def led(self, node, row):
        """What can be known at the next begin behind a node that is not lost, for each length if told."""
        return tuple([(row, node[1], length, lot) for length, lot in self.lots(node[0], node[3])])


def widened(standings, k):
    """The pairs (place, counts) of a place in one of k boxes about standings, and counts of one in this box."""
    places = tuple(sorted(list({place: True for place, _ in standings})))
    if k >= len(places):
        return standings
    found = {}
    for box in boxes_about(places, k):
        inside = {counts: True for place, counts in standings if in_box(box, place)}
        for place in rows_of(box):
            for counts in inside:
                found[(place, counts)] = True
    return tuple(sorted(list(found)))


def is_node(craft, wishes, thing):
    """Whether a thing has the form of a node: of a knowledge with standings."""
    return is_knowledge(craft, wishes, thing) and len(thing[3]) > 0


def roots(craft, wishes):
    return each_once([first(craft, wishes)], Branches(craft, wishes, None, None))


def children(craft, wishes, node, row):
    if not is_node(craft, wishes, node):
        raise NoNode()
    if not is_lever(craft, row):
        raise NoLever()
    return each_once(led_on_by(craft, wishes, node, row), Branches(craft, wishes, None, None))


def each_once(knowledges, branches):
    """The ascending list of the nodes behind all readings that can come at knowledges."""
    found = branches.behind(knowledges)
    return sorted(list({found[reading]: True for reading in found}))


def is_choice_among(branches, thing):
    """Whether a thing is a choice, in the game whose nodes follow each other by branches."""
    craft, wishes = branches.craft, branches.wishes
    if not isinstance(thing, dict) or len(broken_first(craft, wishes)) > 0:
        return False
    for node, row in thing.items():
        if not is_node(craft, wishes, node) or not is_lever(craft, row):
            return False
    if not has_all(thing, branches.behind([first(craft, wishes)])):
        return False
    for node, row in thing.items():
        if branches.is_lost(node) or not has_all(thing, branches.behind(branches.led(node, row))):
            return False
    return True


def has_all(thing, nodes):
    """Whether all nodes in a dict from readings are keys of a thing."""
    return all([nodes[reading] in thing for reading in nodes])
