"""The checker, slowly: all runs of small crafts, state by state, by all pushes, by the document's own words."""

from steadycraft.running import ran
from steadycraft.wishes import begun, counted
from tests import support
from tests.playing import in_order, is_integer, is_number_to, is_standing
from tests.programming import is_dyad


class Chooses:
    """What a machine chooses: (row, key), None where it has no answer."""

    lack, first = "no answer", 0

    def __init__(self, machine):
        self.machine = machine

    def answer(self, key, row, reading):
        return self.machine[key].get(reading)

    def is_key(self, thing):
        return is_number_to(thing, len(self.machine) - 1)


class ChoosesByCode:
    lack = "fault"

    def __init__(self, code):
        self.code = code
        self.first = ((0,) * code.cells[0], ((0, 0),) * code.forms[0])

    def answer(self, key, row, reading):
        word, found, (kept, _, forms), _, _ = ran(self.code, (key[0], (0,) * self.code.cells[1], key[1]), reading, ())
        return None if word != "done" else (row if found is None else found, (kept, forms))

    def is_key(self, thing):
        if type(thing) is not tuple or len(thing) != 2 or any(type(one) is not tuple for one in thing):
            return False
        kept, forms = thing
        if len(kept) != self.code.cells[0] or len(forms) != self.code.forms[0]:
            return False
        return all(is_integer(one) and abs(one) <= 10 ** 9 for one in kept) and all(
            is_dyad(self.code.form, one) for one in forms)


class Checks:
    """All that can come where something chooses in a slow craft."""

    def __init__(self, slow, wishes, chooses):
        self.slow, self.craft, self.wishes, self.chooses = slow, slow.craft, wishes, chooses
        self.walks = {}

    def firsts(self):
        length = 0 if self.craft.lengths[2] else None
        return [(self.chooses.first, 0, (0,) * len(self.craft.sensors), length, place, begun(self.wishes, place))
                for place in self.craft.starts]

    def readings(self, state):
        return in_order(self.slow.readings(state[4], state[2], state[3]))

    def unanswered(self, state):
        return [reading for reading in self.readings(state)
                if self.chooses.answer(state[0], state[1], reading) is None]

    def standings(self, state):
        """For each number of ticks the standings that come, those in which a wish broke at that tick too."""
        key = (state[1],) + state[4:]
        if key not in self.walks:
            layers, layer = [], {state[4:]}
            for _ in range(self.craft.lengths[1]):
                further = set()
                for place, counts in layer:
                    for push in self.slow.pushes:
                        goal = self.slow.goals[place, state[1], push]
                        further.add((goal, counted(self.wishes, counts, goal)))
                layers.append(further)
                layer = {one for one in further if None not in one[1]}
            self.walks[key] = layers
        return self.walks[key]

    def breaks(self, state):
        """The numbers of ticks by which a wish can break in this period."""
        return [at + 1 for at, layer in enumerate(self.standings(state)) if any(None in one[1] for one in layer)]

    def nexts(self, state):
        """All (state, ticks, reading) that can follow, without a break."""
        low, high, told = self.craft.lengths
        found = []
        for reading in self.readings(state):
            answer = self.chooses.answer(state[0], state[1], reading)
            if answer is None:
                continue
            lacks = support.lacks_behind(state[2], reading)
            for ticks in range(low, high + 1):
                for standing in self.standings(state)[ticks - 1]:
                    if None not in standing[1]:
                        found.append(((answer[1], answer[0], lacks, ticks if told else None) + standing, ticks, reading))
        return found

    def all_states(self, most=100000):
        """All states that come in runs without a break."""
        found = set()
        todo = [state for state in self.firsts() if None not in state[5]]
        while todo:
            state = todo.pop()
            if state not in found:
                found.add(state)
                if len(found) > most:
                    return None
                todo += [behind for behind, _, _ in self.nexts(state)]
        return found

    def shortest_failing(self, most):
        """(word, periods, ticks) of the first failing in its order, of at most so many periods; None if none is.

        Each state is gone on from with each number of ticks in all that it can be come to with.
        """
        level = {(state, 0) for state in self.firsts() if None not in state[5]}
        broken = any(None in state[5] for state in self.firsts())
        for many in range(1, most + 1):
            lacks = [ticks for state, ticks in level if self.unanswered(state)]
            if lacks:
                return self.chooses.lack, many, min(lacks)
            breaks = [ticks + more for state, ticks in level for more in self.breaks(state)]
            if many == 1 and broken:
                breaks.append(0)
            if breaks:
                return "breaks", many, min(breaks)
            level = {(behind, ticks + more) for state, ticks in level for behind, more, _ in self.nexts(state)}
        return None

    # Judges

    def is_state(self, thing):
        if type(thing) is not tuple or len(thing) != 6:
            return False
        key, row, lacks, length, place, counts = thing
        if not self.chooses.is_key(key) or not is_number_to(row, len(self.craft.levers) - 1):
            return False
        if type(lacks) is not tuple or len(lacks) != len(self.craft.sensors):
            return False
        if not all(is_number_to(one, most) for one, (_, _, most) in zip(lacks, self.craft.sensors)):
            return False
        if not (is_number_to(length, self.craft.lengths[1]) if self.craft.lengths[2] else length is None):
            return False
        return is_standing(self.craft, len(self.wishes), (place, counts))

    def is_holding(self, thing):
        if type(thing) is not tuple or not all(self.is_state(state) for state in thing):
            return False
        if list(thing) != sorted(set(thing)):
            return False
        if not set(self.firsts()) <= set(thing):
            return False
        return all(not self.unanswered(state) and not self.breaks(state)
                   and {behind for behind, _, _ in self.nexts(state)} <= set(thing) for state in thing)

    def is_failing(self, thing, is_run):
        if type(thing) is not tuple or len(thing) != 2 or type(thing[0]) is not str or not is_run(self.craft, thing[1]):
            return False
        word, (place, periods) = thing
        key, row, counts = self.chooses.first, 0, begun(self.wishes, place)
        broken_ahead = False
        for at, (reading, told, pushes) in enumerate(periods):
            last = at == len(periods) - 1
            answer = self.chooses.answer(key, row, reading)
            if last and word == self.chooses.lack:
                return answer is None and told is None and pushes == () and None not in counts and not broken_ahead
            if told is not None and (answer is None or answer[0] != told):
                return False
            for push in pushes:
                broken_ahead = broken_ahead or None in counts
                place = self.slow.goals[place, row, push]
                counts = counted(self.wishes, counts, place)
            if answer is not None:
                row, key = answer
        return word == "breaks" and None in counts and not broken_ahead


def slowly_parted(slow, wishes, one, other, most):
    """The least of the shortest tuples of readings by which two machines part, of at most so many; None if none is."""
    both = Checks(slow, wishes, Chooses(({},)))
    rows = {(): {((0, 0),) + state[1:] for state in both.firsts() if None not in state[5]}}
    for _ in range(most):
        further, parted = {}, []
        for readings, states in rows.items():
            for state in states:
                for reading in both.readings(state):
                    answers = one[state[0][0]].get(reading), other[state[0][1]].get(reading)
                    if None in answers:
                        if answers != (None, None):
                            parted.append(readings + (reading,))
                        continue
                    if answers[0][0] != answers[1][0]:
                        parted.append(readings + (reading,))
                        continue
                    follow = Follow(both, state, reading, answers[0][0], (answers[0][1], answers[1][1]))
                    further.setdefault(readings + (reading,), set()).update(follow.states())
        if parted:
            return min(parted, key=lambda tuples: [[(item is not None, item or 0) for item in one] for one in tuples])
        if sum(map(len, further.values())) > 4000:
            return None
        rows = further
    return None


class Follow:
    def __init__(self, checks, state, reading, row, key):
        self.checks, self.state, self.reading, self.row, self.key = checks, state, reading, row, key

    def states(self):
        low, high, told = self.checks.craft.lengths
        lacks = support.lacks_behind(self.state[2], self.reading)
        return {(self.key, self.row, lacks, ticks if told else None) + standing for ticks in range(low, high + 1)
                for standing in self.checks.standings(self.state)[ticks - 1] if None not in standing[1]}
