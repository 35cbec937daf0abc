"""The checker: what comes where a machine, or code, chooses; it goes by places alone."""

from steadycraft.choosers import ByBoth, ByCode, ByMachine
from steadycraft.errors import NotApart, NoShape, TooMany
from steadycraft.kinds import ascending, is_one_of, is_pair, is_tuple
from steadycraft.knowing import break_in, broken_first, is_knowledge, reading_order, readings_from
from steadycraft.machines import check_machine
from steadycraft.running import is_apart
from steadycraft.runs import is_run, no_lacks
from steadycraft.steering import shape_of
from steadycraft.wishes import breaks_at, is_breaking
from steadycraft.worlds import World

MOST_STATES = 100000


def answers_at(world, chooser, state):
    """What is chosen at a state.

    The result is a dict from triples (key, row, lacks) to the least reading behind which it is
    so, and the least reading without an answer, None if there is none.
    """
    found, unanswered = {}, None
    for reading, lacks in world.readings(state[1:]):
        answer = chooser.answer(state[0], state[1], reading)
        if answer is not None:
            found.setdefault((answer[1], answer[0], lacks), reading)
        elif unanswered is None:
            unanswered = reading
    return found, unanswered


def followers(world, state, chosen):
    """For each state that can follow, the triple of it, a reading ahead of it, and the fewest ticks."""
    found = []
    for (key, row, lacks), reading in chosen.items():
        for moment, ticks in world.nexts(state[1:], row, lacks):
            found.append(((key,) + moment, reading, ticks))
    return found


def run_by(world, origins, state, last):
    """A run to a state, and a last period; origins tell of each state how it was come to."""
    periods = [last]
    while origins[state] is not None:
        ahead, reading, ticks = origins[state]
        periods.append((reading, state[1], world.pushes(ahead[1:], ticks, state[1:])))
        state = ahead
    return state[4], tuple(periods[::-1])


class Search:
    """All states that come, period by period: each by the fewest periods, and of these by the fewest ticks."""

    def __init__(self, craft, wishes, chooser):
        self._craft = craft
        self._wishes = wishes
        self._chooser = chooser
        self._world = World(craft, wishes)
        # How each state was come to, and by how many ticks in all; level has those of the last period.
        self._level = [(chooser.first,) + moment for moment in self._world.first_moments()]
        self._origins = {state: None for state in self._level}
        self._ticks = {state: 0 for state in self._level}

    def outcome(self):
        broken = broken_first(self._craft, self._wishes)
        while True:
            answers = [answers_at(self._world, self._chooser, state) for state in self._level]
            run = self._unanswered(answers)
            if run is not None:
                return self._chooser.lack, run
            if len(broken) > 0:
                return "breaks", self._broken_at_once(broken[0])
            run = self._breaking(answers)
            if run is not None:
                return "breaks", run
            if len(self._level) == 0:
                return "holds", tuple(sorted(list(self._origins)))
            self._go_on(answers)

    def _unanswered(self, answers):
        """A run to a reading without an answer, of the fewest ticks; None if there is none."""
        found = [(self._ticks[state], at) for at, state in enumerate(self._level) if answers[at][1] is not None]
        if len(found) == 0:
            return None
        _, at = min(found)
        return run_by(self._world, self._origins, self._level[at], (answers[at][1], None, ()))

    def _breaking(self, answers):
        """A run that breaks in the last period, of the fewest ticks; None if there is none."""
        found = []
        for at, state in enumerate(self._level):
            ticks = self._world.breaks(state[1:])
            if ticks is not None:
                found.append((self._ticks[state] + ticks, at))
        if len(found) == 0:
            return None
        _, at = min(found)
        _, row, lacks, length, place, counts = self._level[at]
        _, pushes = break_in(self._craft, self._wishes, (row, lacks, length, ((place, counts),)))
        (_, lever, _), reading = list(answers[at][0].items())[0]
        return run_by(self._world, self._origins, self._level[at], (reading, lever, pushes))

    def _broken_at_once(self, place):
        """A run of one period and no pushes from a start that breaks a wish at once."""
        reading = readings_from(self._craft, place, no_lacks(self._craft), 0)[0]
        answer = self._chooser.answer(self._chooser.first, 0, reading)
        return place, ((reading, None if answer is None else answer[0], ()),)

    def _go_on(self, answers):
        """Goes on to the states that come behind one more period, and were not met ahead of it."""
        further = {}
        for state, (chosen, _) in zip(self._level, answers):
            for behind, reading, ticks in followers(self._world, state, chosen):
                in_all = self._ticks[state] + ticks
                if behind not in self._origins and (behind not in further or in_all < further[behind][0]):
                    further[behind] = (in_all, (state, reading, ticks))
                    check_many(len(self._origins) + len(further))
        for state, (in_all, origin) in further.items():
            self._ticks[state] = in_all
            self._origins[state] = origin
        self._level = list(further)


class Parting:
    """The states that come where two machines choose alike, each by the least of the shortest readings."""

    def __init__(self, craft, wishes, both):
        self._world = World(craft, wishes)
        self._both = both
        # The states of the last period have ranks, by the readings that led to them.
        self._ranks = {(both.first,) + moment: 0 for moment in self._world.first_moments()}
        self._origins = {state: None for state in self._ranks}

    def outcome(self):
        while len(self._ranks) > 0:
            found = self._parted()
            if len(found) > 0:
                _, _, at = min(found)
                return self._told(list(self._ranks)[at])
            self._go_on()
        return None

    def _least_parted(self, state):
        """The least reading at a state behind which the machines part; None if there is none."""
        for reading, _ in self._world.readings(state[1:]):
            if self._both.parts(state[0], reading):
                return reading
        return None

    def _parted(self):
        """For each state of the last period at which the machines part, by what to choose among them."""
        found = []
        for at, state in enumerate(self._ranks):
            reading = self._least_parted(state)
            if reading is not None:
                found.append((self._ranks[state], reading_order(reading), at))
        return found

    def _told(self, state):
        """The readings by which a state is come to and the machines part, and a run with these."""
        run = run_by(self._world, self._origins, state, (self._least_parted(state), None, ()))
        return tuple([reading for reading, _, _ in run[1]]), run

    def _go_on(self):
        further = {}
        for state in self._ranks:
            chosen, _ = answers_at(self._world, self._both, state)
            for behind, reading, ticks in followers(self._world, state, chosen):
                key = (self._ranks[state], reading_order(reading))
                if behind not in self._origins and (behind not in further or key < further[behind][0]):
                    further[behind] = (key, (state, reading, ticks))
                    check_many(len(self._origins) + len(further))
        for state, (_, origin) in further.items():
            self._origins[state] = origin
        keys = sorted([key for key, _ in further.values()])
        ranks = {key: rank for rank, key in enumerate(keys)}
        self._ranks = {state: ranks[key] for state, (key, _) in further.items()}


def check_many(many):
    if many > MOST_STATES:
        raise TooMany(MOST_STATES)


def is_state(craft, wishes, chooser, thing):
    """Whether a thing has the form of a state, without broken counts."""
    if not is_tuple(6, 6, thing) or not chooser.is_key(thing[0]):
        return False
    return is_knowledge(craft, wishes, thing[1:4] + ((thing[4:],),))


def holds(craft, wishes, chooser, thing):
    """Whether a thing is an ascending tuple of states, all at first and all that follow among them, without a fault."""
    if not isinstance(thing, tuple) or not all([is_state(craft, wishes, chooser, state) for state in thing]):
        return False
    if not ascending(thing) or len(broken_first(craft, wishes)) > 0:
        return False
    world = World(craft, wishes)
    kept = {state: True for state in thing}
    if not all([(chooser.first,) + moment in kept for moment in world.first_moments()]):
        return False
    for state in thing:
        chosen, unanswered = answers_at(world, chooser, state)
        if unanswered is not None or world.breaks(state[1:]) is not None:
            return False
        if not all([behind in kept for behind, _, _ in followers(world, state, chosen)]):
            return False
    return True


def chosen_along(chooser, periods):
    """The row and the key behind periods in which their rows are chosen; None if others are."""
    row, key = 0, chooser.first
    for reading, told, _ in periods:
        answer = chooser.answer(key, row, reading)
        if answer is None or answer[0] != told:
            return None
        row, key = answer
    return row, key


def fails(craft, wishes, chooser, thing):
    """Whether a thing is a pair of a word and a run that breaks a wish, or has no answer, as it chooses."""
    if not is_pair(thing) or not is_one_of(("breaks", chooser.lack), thing[0]) or not is_run(craft, thing[1]):
        return False
    word, (_, periods) = thing
    reading, row, pushes = periods[-1]
    if word == "breaks":
        # What is not told of the last period is not asked.
        told = periods if row is not None else periods[:-1]
        return chosen_along(chooser, told) is not None and is_breaking(craft, wishes, thing[1])
    behind = chosen_along(chooser, periods[:-1])
    if behind is None or row is not None or pushes != () or breaks_at(craft, wishes, thing[1]) is not None:
        return False
    row, key = behind
    return chooser.answer(key, row, reading) is None


def checked(craft, wishes, machine):
    check_machine(craft, machine)
    return Search(craft, wishes, ByMachine(machine)).outcome()


def is_holding(craft, wishes, machine, thing):
    check_machine(craft, machine)
    return holds(craft, wishes, ByMachine(machine), thing)


def is_failing(craft, wishes, machine, thing):
    check_machine(craft, machine)
    return fails(craft, wishes, ByMachine(machine), thing)


def check_code(craft, code):
    if code.shape != shape_of(craft):
        raise NoShape()
    if not is_apart(code):
        raise NotApart()


def checked_code(craft, wishes, code):
    check_code(craft, code)
    return Search(craft, wishes, ByCode(code)).outcome()


def is_holding_code(craft, wishes, code, thing):
    check_code(craft, code)
    return holds(craft, wishes, ByCode(code), thing)


def is_failing_code(craft, wishes, code, thing):
    check_code(craft, code)
    return fails(craft, wishes, ByCode(code), thing)


def parting(craft, wishes, one, other):
    check_machine(craft, one)
    check_machine(craft, other)
    return Parting(craft, wishes, ByBoth(one, other)).outcome()
