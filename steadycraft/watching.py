"""Watches: what can be known of a craft from outside, by what its device reads and chooses."""

from steadycraft.crafts import is_lever
from steadycraft.errors import NoArea, NoLever, NoReading, NotAwaited, NothingDone
from steadycraft.knowing import first, led_on_by
from steadycraft.plants import in_area, is_area
from steadycraft.runs import is_reading
from steadycraft.stories import behind_one, run_along

# A watch goes by what is known without wishes.
WISHES = ()


class Watch:
    """Hears what is read and what is chosen, in turn; it tells whether the craft can have done so."""

    def __init__(self, craft):
        self._craft = craft
        self._readings = []
        self._rows = []
        # What is known behind each reading; None from the first one on that can't come.
        self._nodes = []

    def heard(self, reading):
        if len(self._readings) > len(self._rows):
            raise NotAwaited()
        if not is_reading(self._craft, reading):
            raise NoReading()
        self._nodes.append(self._node_behind(reading))
        self._readings.append(reading)
        return self.word()

    def chose(self, row):
        if len(self._readings) == len(self._rows):
            raise NotAwaited()
        if not is_lever(self._craft, row):
            raise NoLever()
        self._rows.append(row)
        return self.word()

    def _node_behind(self, reading):
        """What is known behind one more reading; None if it can't come."""
        if self._has_left():
            return None
        if len(self._nodes) == 0:
            return behind_one(self._craft, (first(self._craft, WISHES),), reading)
        return behind_one(self._craft, led_on_by(self._craft, WISHES, self._nodes[-1], self._rows[-1]), reading)

    def _has_left(self):
        return len(self._nodes) > 0 and self._nodes[-1] is None

    def word(self):
        return "left" if self._has_left() else "within"

    def when(self):
        if not self._has_left():
            return None
        return len([node for node in self._nodes if node is not None])

    def places(self):
        if len(self._nodes) == 0 or self._has_left():
            return ()
        return tuple([place for place, _ in self._nodes[-1][3]])

    def surely(self, area):
        self._check_area(area)
        return all([in_area(area, place) for place in self.places()])

    def perhaps(self, area):
        self._check_area(area)
        return any([in_area(area, place) for place in self.places()])

    def _check_area(self, area):
        if not is_area(len(self._craft.plant.box), area):
            raise NoArea()

    def run(self):
        if len(self._nodes) == 0 or self._has_left():
            return None
        last = len(self._readings) - 1
        story = tuple(list(zip(self._readings[:last], self._rows)) + [(self._readings[last], None)])
        start, periods = run_along(self._craft, WISHES, self._nodes, story, self._nodes[-1][3][0])
        row = self._rows[last] if len(self._rows) > last else None
        return start, periods[:-1] + ((self._readings[last], row, ()),)

    def back(self):
        if len(self._readings) == 0:
            raise NothingDone()
        if len(self._rows) == len(self._readings):
            self._rows.pop()
        else:
            self._readings.pop()
            self._nodes.pop()

    def copy(self):
        other = Watch(self._craft)
        other._readings = list(self._readings)
        other._rows = list(self._rows)
        other._nodes = list(self._nodes)
        return other
