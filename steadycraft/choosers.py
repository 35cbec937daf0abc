"""What chooses, period by period, by what is read: machines, code, and two machines at once."""

from steadycraft.devices import is_stand
from steadycraft.kinds import is_between, is_pair
from steadycraft.running import first_of, undisturbed


class ByMachine:
    """Chooses as a machine: what it goes on from, its key, is a point."""

    def __init__(self, machine):
        self._machine = machine
        self.lack = "no answer"
        self.first = 0

    def answer(self, key, row, reading):
        """The pair (row, key) that is chosen, and gone on from; None if there is no answer."""
        return self._machine[key].get(reading)

    def is_key(self, thing):
        return is_between(0, len(self._machine) - 1, thing)


class ByCode:
    """Chooses as code that is apart: its key is a stand without knock cells."""

    def __init__(self, code):
        self._code = code
        self._answers = {}
        self.lack = "fault"
        kept, _, forms = first_of(code)
        self.first = (kept, forms)

    def answer(self, key, row, reading):
        """The same; a row that was chosen last stays chosen where a period chooses none."""
        at = (key, reading)
        if at not in self._answers:
            self._answers[at] = self._answered(key, reading)
        chosen, behind = self._answers[at]
        return None if behind is None else (row if chosen is None else chosen, behind)

    def _answered(self, key, reading):
        """The row that a period chooses, None for none, and the stand behind it, None if it is not done."""
        period, word = undisturbed(self._code, (key[0], (0,) * self._code.cells[1], key[1]), reading)
        if word != "done":
            return None, None
        kept, _, forms = period.stand()
        return period.row, (kept, forms)

    def is_key(self, thing):
        return is_pair(thing) and is_stand(self._code.form, (self._code.cells[0], 0, self._code.forms[0]),
                                           (thing[0], (), thing[1]))


class ByBoth:
    """Chooses as two machines as long as they choose alike: its key is a pair of points."""

    def __init__(self, one, other):
        self._one = one
        self._other = other
        self.first = (0, 0)

    def answer(self, key, row, reading):
        """The same; None where neither has an answer."""
        one = self._one[key[0]].get(reading)
        return None if one is None else (one[0], (one[1], self._other[key[1]][reading][1]))

    def parts(self, key, reading):
        """Whether both choose unlike rows, or just one has an answer."""
        one, other = self._one[key[0]].get(reading), self._other[key[1]].get(reading)
        if one is None or other is None:
            return one is not None or other is not None
        return one[0] != other[0]
