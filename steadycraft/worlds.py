"""What the world can do from period to period, whatever chooses: readings, ticks, and runs by them."""

from steadycraft.knowing import Step, pushes_along, readings_from
from steadycraft.runs import lacks_behind, no_lacks
from steadycraft.stories import path_to
from steadycraft.wishes import begun, first_broken


class World:
    """A craft and wishes: what was worked out of them is kept.

    A standing is a place with counts; a moment all that a state has behind what chooses:
    (row, lacks, length, place, counts).
    """

    def __init__(self, craft, wishes):
        self._craft = craft
        self._wishes = wishes
        self._steps = [Step(craft, wishes, row) for row in range(len(craft.levers))]
        self._readings = {}
        self._periods = {}

    def first_moments(self):
        """The moments at first: one for each start that breaks no wish at once."""
        length = 0 if self._craft.lengths[2] else None
        standings = [(place, begun(self._wishes, place)) for place in self._craft.starts]
        lacks = no_lacks(self._craft)
        return [(0, lacks, length) + standing for standing in standings if first_broken(standing[1]) is None]

    def readings(self, moment):
        """For each reading that can come, ascending, the pair of it and how often each sensor then lacked."""
        key = moment[1:4]
        if key not in self._readings:
            lacks, length, place = key
            found = readings_from(self._craft, place, lacks, length)
            self._readings[key] = [(reading, lacks_behind(self._craft, lacks, reading)) for reading in found]
        return self._readings[key]

    def _period(self, moment):
        """The least tick at which a wish can break, None for none; and for each tick the standings without a break."""
        key = (moment[0],) + moment[3:]
        if key not in self._periods:
            step, layer, layers, breaks = self._steps[moment[0]], {moment[3:]: True}, [], None
            for at in range(self._craft.lengths[1]):
                further = {}
                for standing in layer:
                    for behind in step.standings_behind(standing):
                        if behind[1] is not None:
                            further[behind] = True
                        elif breaks is None:
                            breaks = at + 1
                layer = further
                layers.append(layer)
            self._periods[key] = (breaks, layers)
        return self._periods[key]

    def breaks(self, moment):
        """The fewest ticks by which a wish can break in this period; None if none can."""
        return self._period(moment)[0]

    def nexts(self, moment, row, lacks):
        """For each moment to which a period can lead, a row being chosen, the pair of it and the fewest ticks."""
        _, layers = self._period(moment)
        low, high, told = self._craft.lengths
        found = {}
        for length in range(low, high + 1):
            for standing in layers[length - 1]:
                found.setdefault((row, lacks, length if told else None) + standing, length)
        return list(found.items())

    def pushes(self, moment, ticks, goal):
        """Pushes that lead in so many ticks from a moment to another one, without a break."""
        row = moment[0]
        standing, places = path_to(self._steps[row], [moment[3:]], ticks, ticks, goal[3:])
        return pushes_along(self._craft, row, (standing, places))
