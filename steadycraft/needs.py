"""What code needs: the beats and the stack of its periods, of whatever readings out of a lot."""

from steadycraft.devices import is_device_reading
from steadycraft.errors import NoLot, NoWhat, TooMany
from steadycraft.kinds import is_one_of, rows_of
from steadycraft.knowing import reading_order, readings_from
from steadycraft.running import first_of, undisturbed
from steadycraft.runs import no_lacks
from steadycraft.slimming import readings_to

MOST_STANDS = 3000
WHATS = ("beats", "deep", "fault", "late")


def is_lot(code, thing):
    """Whether a thing is a tuple of one or more unlike readings."""
    if not isinstance(thing, tuple) or len(thing) == 0:
        return False
    if not all([is_device_reading(code.shape, reading) for reading in thing]):
        return False
    return len({reading for reading in thing}) == len(thing)


def check_lot(code, lot):
    if not is_lot(code, lot):
        raise NoLot()


def check_what(code, lot, what):
    check_lot(code, lot)
    if not is_one_of(WHATS, what):
        raise NoWhat()


class Periods:
    """All periods of code that come by readings of a lot, behind periods that are done."""

    def __init__(self, code, lot):
        self._code = code
        self._lot = sorted(list(lot), key=reading_order)
        # Each stand with the one, and the reading, that led to it, as they are met.
        self.stands = [first_of(code)]
        self._origins = {self.stands[0]: None}
        # For each stand what comes of each reading: the triple (word, beats, deep).
        self._met = []
        while len(self._met) < len(self.stands):
            self._met.append(self._periods_from(self.stands[len(self._met)]))
        met = [told for periods in self._met for told in periods]
        self.beats = max([beats for _, beats, _ in met])
        self.deep = max([deep for _, _, deep in met])
        self.words = tuple(sorted({word for word, _, _ in met}))

    def _periods_from(self, stand):
        found = []
        for reading in self._lot:
            period, word = undisturbed(self._code, stand, reading)
            found.append((word, period.beats, period.deep))
            if word == "done":
                self._come(without_knocks(period.stand()), stand, reading)
        return found

    def _come(self, behind, stand, reading):
        if behind in self._origins:
            return
        if len(self.stands) == MOST_STANDS:
            raise TooMany(MOST_STANDS)
        self._origins[behind] = (stand, reading)
        self.stands.append(behind)

    def is_so(self, what, told):
        """Whether a period is what is asked for; told is (word, beats, deep) of it."""
        word, beats, deep = told
        if what == "fault" or what == "late":
            return word == what
        return beats == self.beats if what == "beats" else deep == self.deep

    def first_with(self, what):
        """The least of the shortest tuples of readings by whose last one a period is so; None if none is."""
        for stand, periods in zip(self.stands, self._met):
            for reading, told in zip(self._lot, periods):
                if self.is_so(what, told):
                    return readings_to(self._origins, stand) + (reading,)
        return None


def without_knocks(stand):
    """A stand with its knock cells 0."""
    kept, knocks, forms = stand
    return kept, (0,) * len(knocks), forms


def stands(code, lot):
    check_lot(code, lot)
    return sorted(Periods(code, lot).stands)


def needs(code, lot):
    check_lot(code, lot)
    periods = Periods(code, lot)
    return periods.beats, periods.deep, periods.words


def needing(code, lot, what):
    check_what(code, lot, what)
    return Periods(code, lot).first_with(what)


def is_needing(code, lot, what, thing):
    check_what(code, lot, what)
    periods = Periods(code, lot)
    if not is_lot_row(code, lot, thing):
        return False
    stand = first_of(code)
    for at, reading in enumerate(thing):
        period, word = undisturbed(code, stand, reading)
        if at == len(thing) - 1:
            return periods.is_so(what, (word, period.beats, period.deep))
        if word != "done":
            return False
        stand = without_knocks(period.stand())
    return False


def is_lot_row(code, lot, thing):
    """Whether a thing is a tuple of readings of a lot."""
    if not isinstance(thing, tuple) or not all([is_device_reading(code.shape, reading) for reading in thing]):
        return False
    asked = {reading: True for reading in lot}
    return all([reading in asked for reading in thing])


def lot_of(craft):
    found = {}
    lengths = list(range(craft.lengths[1] + 1)) if craft.lengths[2] else [None]
    for place in rows_of(craft.plant.box):
        for length in lengths:
            for reading in readings_from(craft, place, no_lacks(craft), length):
                found[reading] = True
    return tuple(sorted(list(found), key=reading_order))
