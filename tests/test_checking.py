"""Promises 8.1 to 8.4: what comes where a machine, or code, chooses, and where two machines part."""

import copy
import random
import unittest

from steadycraft.checking import (checked, checked_code, is_failing, is_failing_code, is_holding, is_holding_code,
                                  parting)
from steadycraft.codes import Code
from steadycraft.compiling import compiled
from steadycraft.crafts import Craft
from steadycraft.dyads import Format
from steadycraft.errors import NoMachine, NotApart, NoShape, TooMany
from steadycraft.games import steady
from steadycraft.machines import machine_of
from steadycraft.plants import Plant
from steadycraft.programs import Program
from steadycraft.runs import is_run
from steadycraft.slimming import slim
from steadycraft.steering import shape_of, table_program
from steadycraft.wishes import breaks_at, counted
from tests import support
from tests.checkers import Checks, Chooses, ChoosesByCode, slowly_parted
from tests.playing import Play, in_order
from tests.test_games import NEVER_FOUR, falling, line

X = ("in", 0)


def every_reading(slow):
    """All readings that some place can give."""
    craft = slow.craft
    found = set()
    for place in slow.places:
        for length in range(craft.lengths[1] + 1):
            found.update(slow.readings(place, (0,) * len(craft.sensors), length))
    return in_order(found)


def answering(chance, slow, many, share=1.0):
    """A machine of so many points with answers for this share of all readings."""
    rows = len(slow.craft.levers)
    return tuple({reading: (chance.randrange(rows), chance.randrange(many)) for reading in every_reading(slow)
                  if chance.random() < share} for _ in range(many))


def some_cases(seed, many):
    """Small crafts with wishes and machines of all sorts: (chance, slow craft, wishes, machine)."""
    chance = random.Random(seed)
    while many > 0:
        slow = support.Slow(support.some_craft(chance, most_places=8))
        wishes = support.some_wishes(chance, slow.craft.plant)
        play = Play(slow, wishes)
        nodes = play.nodes(play.roots(), 60)
        if nodes is None or (play.broken_first() and chance.random() < 0.9):
            continue
        word, choice = steady(slow.craft, wishes)
        if word == "made" and chance.random() < 0.7:
            machine = machine_of(slow.craft, wishes, choice)
            if chance.random() < 0.5:
                machine = slim(slow.craft, machine)
            if chance.random() < 0.5:
                machine = bent(chance, slow.craft, machine)
        else:
            machine = answering(chance, slow, chance.randint(1, 3), chance.choice((1.0, 1.0, 0.97, 0.8)))
        many -= 1
        yield chance, slow, wishes, machine


def bent(chance, craft, machine):
    """A machine with an answer otherwise, or gone."""
    points = [dict(point) for point in machine]
    point = chance.choice([point for point in points if point] or [{}])
    if point:
        reading = chance.choice(in_order(point))
        if chance.random() < 0.3:
            del point[reading]
        else:
            point[reading] = (chance.randrange(len(craft.levers)), chance.randrange(len(points)))
    return tuple(points)


def bent_runs(found):
    """With the last row gone or there, a push or a period less, a row otherwise."""
    word, (start, periods) = found
    reading, row, pushes = periods[-1]
    ahead = periods[:-1]
    others = [(reading, None, pushes), (reading, 0, pushes), (reading, 1, pushes), (reading, row, pushes[:-1]),
              (reading, row, pushes + pushes[-1:]), (reading, row, ())]
    runs = [(start, ahead + (other,)) for other in others] + [(start, ahead), (start, periods + periods[-1:])]
    for at, (reading, row, pushes) in enumerate(ahead):
        other = ahead[:at] + ((reading, 0 if row else 1, pushes),) + ahead[at + 1:]
        runs += [(start, other + periods[-1:]), (start, other + (periods[-1][:1] + (None,) + periods[-1][2:],))]
    return [(told, run) for run in runs for told in ("breaks", "no answer")]


def spreading(waits):
    """A craft that comes to ever more of 400 places, and a machine with a point for each of so many periods."""
    craft = Craft(line(0, 399, X, (-1, 1)), ((0,),), ((("number", 0), 0, 0),), (1, 1, False), ((200,),))
    return craft, tuple({(0,): (0, min(at + 1, waits - 1))} for at in range(waits))


def standing(many):
    """A craft that stays at any of 400 places, and a machine that goes round by so many points."""
    craft = Craft(line(0, 399, X), ((0,),), ((("number", 0), 0, 0),), (1, 1, False), tuple((at,) for at in range(400)))
    return craft, tuple({(0,): (0, (at + 1) % many)} for at in range(many))


class CheckedCase(unittest.TestCase):
    def check(self, slow, wishes, chooses, found):
        """What the checker told is right by a going through of all runs; the word."""
        checks = Checks(slow, wishes, chooses)
        word, thing = found
        if word == "holds":
            self.assertIsNone(checks.shortest_failing(3))
            self.assertEqual(thing, tuple(sorted(checks.all_states())))
            self.assertTrue(checks.is_holding(thing))
            return word
        self.assertTrue(is_run(slow.craft, thing))
        self.assertTrue(checks.is_failing(found, is_run), found)
        many = len(thing[1])
        if many <= 4:
            ticks = sum(len(pushes) for _, _, pushes in thing[1])
            self.assertEqual(checks.shortest_failing(many), (word, many, ticks))
        else:
            self.assertIsNone(checks.shortest_failing(4))
        return word


class CheckedTest(CheckedCase):
    def test_against_all_runs(self):
        told, wide = {}, 0
        for chance, slow, wishes, machine in some_cases(1101, 240):
            craft = slow.craft
            found = checked(craft, wishes, machine)
            word = self.check(slow, wishes, Chooses(machine), found)
            told[word] = told.get(word, 0) + 1
            wide += word == "holds" and len(found[1]) > 15
            self.assertIs(is_holding(craft, wishes, machine, found[1]), word == "holds")
            self.assertIs(is_failing(craft, wishes, machine, found), word != "holds")
        self.assertGreater(min(told[word] for word in ("holds", "breaks", "no answer")), 30)
        self.assertGreater(wide, 5)

    def test_the_documents_craft(self):
        craft = falling()
        stays = ({(2,): (1, 0), (3,): (1, 0), (1,): (0, 0), (0,): (0, 0)},)
        self.assertEqual(checked(craft, NEVER_FOUR, stays),
                         ("holds", tuple((0, row, (0,), None, (place,), (0,)) for row, place in
                                         [(0, 0), (0, 1), (0, 2), (1, 1), (1, 2), (1, 3)])))
        rises = ({(2,): (0, 0), (3,): (0, 0)},)
        word, run = checked(craft, NEVER_FOUR, rises)
        self.assertEqual((word, run), ("breaks", ((2,), (((2,), 0, ((1,),)), ((3,), 0, ((1,),))))))
        self.assertEqual(breaks_at(craft, NEVER_FOUR, run), (1, 1, 0))

    def test_no_answer_ahead_of_breaks_of_as_many_periods(self):
        craft = falling()
        lacking = ({(2,): (0, 0)},)
        self.assertEqual(checked(craft, NEVER_FOUR, lacking),
                         ("no answer", ((2,), (((2,), 0, ((1,),)), ((3,), None, ())))))
        # A break in fewer periods is told ahead of it.
        craft = falling(starts=((2,), (3,)))
        later = ({(2,): (1, 1), (3,): (1, 1)}, {})
        self.assertEqual(checked(craft, NEVER_FOUR, later), ("breaks", ((3,), (((3,), 1, ((1,),)),))))
        self.assertEqual(checked(craft, NEVER_FOUR, ({(3,): (1, 0)},)), ("no answer", ((2,), (((2,), None, ()),))))

    def test_a_start_that_breaks_at_once(self):
        craft = falling(starts=((1,), (4,)))
        for machine, row in [(({(1,): (0, 0), (4,): (1, 0)},), 1), (({(1,): (0, 0)},), None)]:
            found = checked(craft, NEVER_FOUR, machine)
            self.assertEqual(found, ("breaks", ((4,), (((4,), row, ()),))))
            self.assertIs(is_failing(craft, NEVER_FOUR, machine, found), True)
            self.assertIs(is_failing(craft, NEVER_FOUR, machine, ("breaks", ((4,), (((4,), None, ()),)))), True)
            self.assertIs(is_failing(craft, NEVER_FOUR, machine, ("no answer", ((4,), (((4,), None, ()),)))), False)
            self.assertIs(is_holding(craft, NEVER_FOUR, machine, ()), False)
        # Another start, at which there is no answer, comes ahead; so does no break of more ticks.
        self.assertEqual(checked(craft, NEVER_FOUR, ({(4,): (0, 0)},)), ("no answer", ((1,), (((1,), None, ()),))))
        craft = falling(starts=((3,), (4,)))
        self.assertEqual(checked(craft, NEVER_FOUR, ({(3,): (0, 0), (4,): (0, 0)},))[1][0], (4,))
        craft = falling(starts=((4,),))
        self.assertEqual(checked(craft, NEVER_FOUR, ({},)), ("breaks", ((4,), (((4,), None, ()),))))

    def test_fewest_ticks(self):
        # A step by 1 and two by 5 come beyond 8; four by 1 and one by 5 are more ticks.
        plant = line(0, 40, ("plus", X, ("in", 1)))
        craft = Craft(plant, ((1,), (5,)), ((("number", 0), 0, 0),), (1, 6, False), ((0,),))
        wishes = (("never", (((9, 40),),)),)
        machine = ({(0,): (1, 0)},)
        word, (start, periods) = checked(craft, wishes, machine)
        self.assertEqual((word, len(periods), [len(pushes) for _, _, pushes in periods]), ("breaks", 2, [1, 2]))
        machine = ({(0,): (1, 1)}, {})
        word, (start, periods) = checked(craft, wishes, machine)
        self.assertEqual((word, [len(pushes) for _, _, pushes in periods]), ("no answer", [1, 0]))

    def test_fewest_ticks_by_whatever_start(self):
        # From 0 and from 20 one place each, by one tick or by six, leads on to 9; all others stay.
        row, sums = ("in", 1), ("plus", X, ("in", 2))
        moves = ("plus", ("times", ("minus", ("number", 1), row), sums), ("times", row, ("number", 9)))
        stays = ("plus", X, ("times", ("minus", ("number", 1), row), ("in", 2)))
        for far, near, start in [(6, 21, 20), (26, 1, 0)]:
            modes = (((((far, far),), ((near, near),)), (moves,)), (None, (stays,)))
            plant = Plant(Format(12, 0, 4), "near", ((0, 30),), modes, ((0, 0),))
            craft = Craft(plant, ((0, 1), (1, 0)), ((X, 0, 0),), (1, 6, False), ((0,), (20,)))
            machine = ({(place,): (1, 0) for place in range(31) if place != 9},)
            found = checked(craft, (), machine)
            self.check(support.Slow(craft), (), Chooses(machine), found)
            periods = (((start,), 1, ((0,),)), ((near,), 1, ((0,),)), ((9,), None, ()))
            self.assertEqual(found, ("no answer", ((start,), periods)))

    def test_without_wishes_and_with_empty_machines(self):
        craft = falling()
        self.assertEqual(checked(craft, (), ({},)), ("no answer", ((2,), (((2,), None, ()),))))
        full = ({(at,): (0, 0) for at in range(5)},)
        self.assertEqual(checked(craft, (), full)[0], "holds")
        self.assertEqual(len(checked(craft, (), full)[1]), 3)

    def test_no_machine(self):
        craft = falling()
        things = support.junk() + [(), [{}], ({(0,): (2, 0)},), ({(0,): (0, 1)},), ({(0, 0): (0, 0)},)]
        for thing in things:
            with self.assertRaises(NoMachine):
                checked(craft, NEVER_FOUR, thing)
            for judge in (is_holding, is_failing):
                with self.assertRaises(NoMachine):
                    judge(craft, NEVER_FOUR, thing, None)
            for pair in [(thing, ({},)), (({},), thing)]:
                with self.assertRaises(NoMachine):
                    parting(craft, NEVER_FOUR, *pair)

    def test_too_many(self):
        # Behind n periods 2 n + 1 places can be: 317 periods and the first 100489 states.
        craft, machine = spreading(400)
        with self.assertRaises(TooMany) as caught:
            checked(craft, (), machine)
        self.assertEqual(caught.exception.most, 100000)
        craft, machine = spreading(100)
        word, states = checked(craft, (), machine)
        self.assertEqual(len(states), sum(2 * at + 1 for at in range(99)) + 400)
        # Just 100000 are let, and no more: 400 places at each of 250 points, or of 251.
        craft, machine = standing(250)
        word, states = checked(craft, (), machine)
        self.assertEqual((word, len(states)), ("holds", 100000))
        self.assertIsNone(parting(craft, (), machine, machine))
        craft, machine = standing(251)
        for call in (checked, lambda craft, wishes, machine: parting(craft, wishes, machine, machine)):
            with self.assertRaises(TooMany):
                call(craft, (), machine)

    def test_nothing_passed_is_changed(self):
        for chance, slow, wishes, machine in some_cases(1102, 25):
            kept = copy.deepcopy(machine)
            found = checked(slow.craft, wishes, machine)
            is_holding(slow.craft, wishes, machine, found[1])
            is_failing(slow.craft, wishes, machine, found)
            parting(slow.craft, wishes, machine, machine)
            self.assertEqual(machine, kept)
            self.assertEqual(checked(copy.deepcopy(slow.craft), wishes, kept), found)


class HoldingTest(unittest.TestCase):
    def test_against_the_words(self):
        told = {True: 0, False: 0}
        for chance, slow, wishes, machine in some_cases(1103, 160):
            craft = slow.craft
            checks = Checks(slow, wishes, Chooses(machine))
            states = checks.all_states()
            if len(states) > 60:
                continue
            for thing in self.lots(chance, checks, states):
                right = checks.is_holding(thing)
                self.assertIs(is_holding(craft, wishes, machine, thing), right, thing)
                told[right] += 1
        self.assertGreater(told[True], 150)
        self.assertGreater(told[False], 1500)

    def lots(self, chance, checks, states):
        """What holds; more states, but closed; fewer; one twice; not ascending; bent ones."""
        right = tuple(sorted(states))
        found = [right, right[1:], right[:-1], (), right[::-1], right + right[-1:], list(right)]
        found += support.changed(right, chance.random(), 8)
        for _ in range(2):
            if right:
                at = chance.randrange(len(right))
                found.append(right[:at] + right[at + 1:])
        found.append(self.closed(chance, checks, states))
        more = self.some_state(chance, checks)
        found.append(tuple(sorted(states | {more})))
        return found

    def some_state(self, chance, checks):
        craft = checks.craft
        counts = tuple(chance.choice((0, 0, 1)) for _ in checks.wishes)
        return (chance.randrange(len(checks.chooses.machine)), chance.randrange(len(craft.levers)),
                tuple(chance.randint(0, most) for _, _, most in craft.sensors),
                chance.randint(0, craft.lengths[1]) if craft.lengths[2] else None,
                chance.choice(checks.slow.places), counts)

    def closed(self, chance, checks, states):
        """With some state that needn't come, and all that can follow it."""
        found, todo = set(states), [self.some_state(chance, checks)]
        while todo and len(found) < 150:
            state = todo.pop()
            if state not in found:
                found.add(state)
                todo += [behind for behind, _, _ in checks.nexts(state)]
        return tuple(sorted(found))

    def test_states_of_other_forms(self):
        craft = Craft(line(0, 9, X), ((0,), (1,)), ((X, 0, 1),), (1, 2, True), ((3,),))
        machine = ({(count, length): (0, 0) for count in (None, 3) for length in range(3)},)
        wishes = (("again", (((3, 9),),), 2),)
        word, states = checked(craft, wishes, machine)
        self.assertEqual(word, "holds")
        checks = Checks(support.Slow(craft), wishes, Chooses(machine))
        state = states[0]
        self.assertEqual(state, (0, 0, (0,), 0, (3,), (0,)))
        for at, thing in [(0, 1), (0, False), (0, -1), (1, 2), (1, None), (2, (2,)), (2, ()), (2, [0]), (3, None), (3, 3),
                          (3, False), (4, (10,)), (4, 3), (5, (None,)), (5, (32,)), (5, ()), (5, (0, 0))]:
            bent = state[:at] + (thing,) + state[at + 1:]
            self.assertFalse(checks.is_state(bent))
            self.assertIs(is_holding(craft, wishes, machine, (bent,) + states[1:]), False)
            self.assertIs(is_holding(craft, wishes, machine, states + (bent,)), False)
            self.assertIs(is_holding(craft, wishes, machine, (bent,) + states), False)
        for thing in support.junk():
            self.assertIs(is_holding(craft, wishes, machine, thing), False)
            self.assertIs(is_holding(craft, wishes, machine, (thing,)), False)
            self.assertIs(is_holding(craft, wishes, machine, states + (thing,)), False)
            for at in range(6):
                bent = state[:at] + (thing,) + state[at + 1:]
                if thing != state[at] or type(thing) is bool:
                    self.assertIs(is_holding(craft, wishes, machine, (bent,) + states[1:]), False)
        self.assertIs(is_holding(craft, wishes, machine, ("holds", states)), False)


class FailingTest(unittest.TestCase):
    def test_against_the_words(self):
        told = {}
        for chance, slow, wishes, machine in some_cases(1104, 260):
            craft = slow.craft
            checks = Checks(slow, wishes, Chooses(machine))
            found = checked(craft, wishes, machine)
            things = [found, ("breaks", found[1]), ("no answer", found[1]), ("fault", found[1])]
            things += support.changed(found, chance.random(), 6) if found[0] != "holds" else []
            things += [self.drawn(chance, checks) for _ in range(4)]
            if found[0] != "holds":
                things += bent_runs(found)
            for thing in things:
                right = checks.is_failing(thing, is_run)
                self.assertIs(is_failing(craft, wishes, machine, thing), right, thing)
                key = (thing[0], right) if type(thing) is tuple and thing and type(thing[0]) is str else right
                told[key] = told.get(key, 0) + 1
        self.assertGreater(min(told[word, right] for word in ("breaks", "no answer") for right in (True, False)), 80)

    def drawn(self, chance, checks):
        """A run in which it chooses, of whatever many periods, until it breaks or has no answer; perhaps cut short."""
        low, high, _ = checks.craft.lengths
        state = chance.choice(checks.firsts())
        start, periods = state[4], []
        for _ in range(chance.randint(1, 8)):
            reading = chance.choice(checks.readings(state))
            answer = checks.chooses.answer(state[0], state[1], reading)
            if answer is None:
                return "no answer", (start, tuple(periods) + ((reading, None, ()),))
            place, counts, pushes = state[4], state[5], []
            for _ in range(chance.randint(low, high)):
                if None in counts:
                    break
                pushes.append(chance.choice(checks.slow.pushes))
                place = checks.slow.goals[place, state[1], pushes[-1]]
                counts = counted(checks.wishes, counts, place)
            if None in counts:
                row = chance.choice((None, answer[0]))
                return "breaks", (start, tuple(periods) + ((reading, row, tuple(pushes)),))
            periods.append((reading, answer[0], tuple(pushes)))
            length = len(pushes) if checks.craft.lengths[2] else None
            state = (answer[1], answer[0], support.lacks_behind(state[2], reading), length, place, counts)
        return chance.choice(("breaks", "no answer")), (start, tuple(periods))

    def test_the_last_period_of_both_sorts(self):
        craft, lacking = falling(), ({(2,): (0, 0)},)
        ahead, push = (((2,), 0, ((1,),)),), (1,)
        for word, last, right in [("no answer", ((3,), None, ()), True), ("no answer", ((3,), None, (push,)), False),
                                  ("no answer", ((3,), None, ((0,),)), False),
                                  ("no answer", ((3,), 0, ()), False), ("breaks", ((3,), None, (push,)), True),
                                  ("breaks", ((3,), 0, (push,)), False), ("breaks", ((3,), None, ()), False)]:
            self.assertIs(is_failing(craft, NEVER_FOUR, lacking, (word, ((2,), ahead + (last,)))), right)

    def test_any_object(self):
        craft, machine = falling(), ({(2,): (0, 0), (3,): (0, 0)},)
        word, run = checked(craft, NEVER_FOUR, machine)
        for thing in support.junk() + [[word, run], (word,), (word, run, 0), (word, list(run)), (b"breaks", run)]:
            for told in [thing, (thing, run), (word, thing), (word, (run[0], thing)), (word, (thing, run[1]))]:
                self.assertIs(is_failing(craft, NEVER_FOUR, machine, told), False)

    def test_just_one_of_both_sorts(self):
        for chance, slow, wishes, machine in some_cases(1105, 60):
            word, thing = checked(slow.craft, wishes, machine)
            if word != "holds":
                checks = Checks(slow, wishes, Chooses(machine))
                states = tuple(sorted(state for state in checks.all_states()))
                self.assertIs(is_holding(slow.craft, wishes, machine, states), False)


class PartingTest(unittest.TestCase):
    def check(self, slow, wishes, one, other, found, most=4):
        craft = slow.craft
        slowly = slowly_parted(slow, wishes, one, other, most)
        if found is None:
            self.assertIsNone(slowly)
            return
        readings, run = found
        self.assertTrue(slowly == readings or slowly is None and len(readings) > 1, (slowly, readings))
        self.assertTrue(is_run(craft, run))
        self.assertEqual(tuple(reading for reading, _, _ in run[1]), readings)
        self.assertEqual(run[1][-1][1:], (None, ()))
        self.assertIsNone(breaks_at(craft, wishes, run))
        points = (0, 0)
        for reading, row, _ in run[1][:-1]:
            answers = [machine[point][reading] for machine, point in zip((one, other), points)]
            self.assertEqual([answer[0] for answer in answers], [row, row])
            points = tuple(answer[1] for answer in answers)
        answers = [machine[point].get(readings[-1], (None,))[0] for machine, point in zip((one, other), points)]
        self.assertNotEqual(*answers)

    def test_against_all_readings(self):
        told = {True: 0, False: 0}
        for chance, slow, wishes, machine in some_cases(1106, 200):
            other = machine
            for _ in range(chance.randint(0, 2)):
                other = bent(chance, slow.craft, other)
            for pair in [(machine, other), (other, machine)]:
                found = parting(slow.craft, wishes, *pair)
                self.check(slow, wishes, *pair, found)
                told[found is None] += 1
            if found is not None:
                self.assertEqual(parting(slow.craft, wishes, machine, other)[0], found[0])
        self.assertGreater(min(told.values()), 60)

    def test_machines_alike_but_for_their_points(self):
        for chance, slow, wishes, machine in some_cases(1107, 60):
            order = list(range(1, len(machine)))
            chance.shuffle(order)
            order = [0] + order
            numbers = {old: new for new, old in enumerate(order)}
            other = tuple({reading: (row, numbers[point]) for reading, (row, point) in machine[old].items()}
                          for old in order)
            self.assertIsNone(parting(slow.craft, wishes, machine, other))
            self.assertIsNone(parting(slow.craft, wishes, machine, machine + machine))
            if checked(slow.craft, wishes, machine)[0] == "holds":
                self.assertIsNone(parting(slow.craft, wishes, machine, slim(slow.craft, machine)))

    def test_the_least_of_the_shortest(self):
        craft = Craft(line(0, 9, X, (-1, 1)), ((0,), (1,)), ((X, 0, 1),), (1, 1, False), ((3,), (5,)))
        full = {(count,): (0, 0) for count in list(range(10)) + [None]}
        one = (full,)

        def other(**told):
            changed = dict(full)
            for count, answer in told.items():
                if answer is None:
                    del changed[None if count == "none" else int(count[1:]),]
                else:
                    changed[None if count == "none" else int(count[1:]),] = answer
            return (changed,)

        for told, due in [(dict(), None), (dict(n5=(1, 0)), ((5,),)), (dict(n5=(1, 0), n3=None), ((3,),)),
                          (dict(n3=(1, 0), none=None), ((None,),)), (dict(n4=None), ((None,), (4,))),
                          (dict(n6=None, n2=(1, 0)), ((None,), (2,))), (dict(n0=None), ((None,), (2,), (None,), (0,)))]:
            for pair in [(one, other(**told)), (other(**told), one)]:
                found = parting(craft, (), *pair)
                self.assertEqual(found if due is None else found[0], due)

    def test_the_least_readings_by_whatever_start(self):
        # Both starts lead to 5, where the machines part; the later one gives the lesser reading.
        plant = line(0, 9, ("number", 5))
        craft = Craft(plant, ((0,), (1,)), ((("minus", ("number", 0), X), 0, 0),), (1, 1, False), ((1,), (8,)))
        one = ({(-1,): (0, 0), (-8,): (0, 0), (-5,): (0, 0)},)
        other = ({(-1,): (0, 0), (-8,): (0, 0), (-5,): (1, 0)},)
        run = ((8,), (((-8,), 0, ((0,),)), ((-5,), None, ())))
        self.assertEqual(parting(craft, (), one, other), (((-8,), (-5,)), run))

    def test_what_breaks_ahead_is_left_out(self):
        craft = falling(starts=((2,), (4,)))
        one = ({(2,): (0, 0), (3,): (0, 0), (4,): (0, 0)},)
        for other in [({(2,): (0, 0), (3,): (0, 0), (4,): (1, 0)},), ({(2,): (0, 0), (3,): (0, 0)},)]:
            self.assertIsNone(parting(craft, NEVER_FOUR, one, other))
            self.assertEqual(parting(craft, (), one, other)[0], ((4,),))

    def test_both_without_an_answer(self):
        craft = falling()
        self.assertIsNone(parting(craft, (), ({},), ({}, {(2,): (0, 0)})))
        self.assertEqual(parting(craft, (), ({},), ({(2,): (0, 0)},)), (((2,),), ((2,), (((2,), None, ()),))))

    def test_too_many(self):
        craft, machine = spreading(400)
        with self.assertRaises(TooMany) as caught:
            parting(craft, (), machine, machine)
        self.assertEqual(caught.exception.most, 100000)


class CodeTest(CheckedCase):
    def coded(self, craft, *rows, cells=(1, 0, 0), forms=(0, 0)):
        return Code(shape_of(craft), craft.plant.form, cells, forms, rows, len(rows) - 1)

    def test_of_table_programs(self):
        told = {}
        for chance, slow, wishes, machine in some_cases(1108, 120):
            craft = slow.craft
            code, _ = compiled(table_program(craft, machine))
            by_machine, found = checked(craft, wishes, machine), checked_code(craft, wishes, code)
            word = self.check(slow, wishes, ChoosesByCode(code), found)
            told[word] = told.get(word, 0) + 1
            if by_machine[0] != "no answer":
                self.assertEqual(word, by_machine[0])
                self.assertEqual(len(found[1][1]) if word == "breaks" else 0,
                                 len(by_machine[1][1]) if word == "breaks" else 0)
            self.assertIs(is_holding_code(craft, wishes, code, found[1]), word == "holds")
            self.assertIs(is_failing_code(craft, wishes, code, found), word != "holds")
        self.assertGreater(min(told["holds"], told["breaks"]), 20)

    def bent_code(self, chance, code):
        rows = list(code.rows)
        for _ in range(chance.randint(1, 3)):
            at = chance.randrange(len(rows))
            word = rows[at][0]
            if word == "number":
                rows[at] = rows[at][:2] + (rows[at][2] + chance.choice((-1, 1, 1, 5)),)
            elif word in ("row", "store") and chance.random() < 0.5:
                rows[at] = ("number", 5, 0)
            elif word in ("go", "same"):
                # Mostly ahead: what goes round and round is late only behind many rows.
                rows[at] = rows[at][:-1] + (chance.randrange(0 if chance.random() < 0.1 else at, len(rows)),)
        return Code(code.shape, code.form, code.cells, code.forms, tuple(rows), code.handler)

    def test_of_bent_code(self):
        told = {}
        for chance, slow, wishes, machine in some_cases(1109, 90):
            craft = slow.craft
            code = self.bent_code(chance, compiled(table_program(craft, machine))[0])
            chooses = ChoosesByCode(code)
            found = checked_code(craft, wishes, code)
            word = self.check(slow, wishes, chooses, found)
            told[word] = told.get(word, 0) + 1
            checks = Checks(slow, wishes, chooses)
            states = tuple(sorted(checks.all_states()))
            if len(states) < 60:
                for thing in [states] + support.changed(states, chance.random(), 12) + [states[1:], states[:-1]]:
                    self.assertIs(is_holding_code(craft, wishes, code, thing), checks.is_holding(thing))
            things = [found, ("no answer", found[1])]
            if word != "holds":
                things += support.changed(found, chance.random(), 10) + bent_runs(found)
                things += [("fault", thing[1]) for thing in things if type(thing) is tuple and len(thing) == 2]
            for thing in things:
                self.assertIs(is_failing_code(craft, wishes, code, thing), checks.is_failing(thing, is_run), thing)
        self.assertGreater(min(told[word] for word in ("holds", "breaks", "fault")), 8)

    def test_code_that_counts_periods(self):
        craft = falling()
        count = (("load", 0, 0), ("number", 1, 1), ("plus", 0, 0, 1))
        endless = self.coded(craft, *count, ("store", 0, 0), ("row", 1), ("end",))
        with self.assertRaises(TooMany) as caught:
            checked_code(craft, NEVER_FOUR, endless)
        self.assertEqual(caught.exception.most, 100000)
        # It goes round behind five periods: places from 0 on at each of them.
        round_five = self.coded(craft, *count, ("number", 2, 5), ("less", 0, 2, 6), ("number", 0, 0), ("store", 0, 0),
                                ("row", 1), ("end",))
        word, states = checked_code(craft, NEVER_FOUR, round_five)
        self.assertEqual((word, states[0]), ("holds", (((0,), ()), 0, (0,), None, (2,), (0,))))
        self.assertEqual({state[0] for state in states}, {((at,), ()) for at in range(5)})
        self.check(support.Slow(craft), NEVER_FOUR, ChoosesByCode(round_five), (word, states))

    def test_code_that_chooses_no_row(self):
        craft = falling(levers=((-1,), (0,)))
        nothing = self.coded(craft, ("end",))
        word, states = checked_code(craft, NEVER_FOUR, nothing)
        self.assertEqual((word, {state[1] for state in states}), ("holds", {0}))
        # Row 1 is chosen at the place 1 alone, and stays chosen.
        once = self.coded(craft, ("count", 0, 0), ("number", 1, 1), ("same", 0, 1, 4), ("end",), ("row", 1), ("end",))
        word, run = checked_code(craft, NEVER_FOUR, once)
        self.assertEqual((word, [row for _, row, _ in run[1][:-1]]), ("breaks", [0, 1, 1, 1]))
        self.assertIs(is_failing_code(craft, NEVER_FOUR, once, (word, run)), True)
        self.check(support.Slow(craft), NEVER_FOUR, ChoosesByCode(once), (word, run))

    def test_code_that_faults_or_is_late(self):
        craft = falling(levers=((-1,), (0,)), starts=((2,), (3,)))
        for odd in [("plus", 0, 2, 2), ("go", 3), ("back",)]:
            code = self.coded(craft, ("count", 0, 0), ("number", 1, 1), ("number", 2, 10 ** 9), ("same", 0, 1, 5), ("end",),
                              odd, ("end",) if odd[0] != "go" else ("go", 5))
            word, run = checked_code(craft, NEVER_FOUR, code)
            self.assertEqual((word, run[0], len(run[1]), run[1][-1]), ("fault", (2,), 2, ((1,), None, ())))
            self.assertIs(is_failing_code(craft, NEVER_FOUR, code, (word, run)), True)
            for told in ("no answer", "breaks", "late", "holds"):
                self.assertIs(is_failing_code(craft, NEVER_FOUR, code, (told, run)), False)
            self.assertIs(is_failing_code(craft, NEVER_FOUR, code, (word, (run[0], run[1][:1]))), False)
        # A fault comes ahead of a break of as many periods, not of one of fewer.
        self.assertEqual(checked_code(craft, (("never", (((3, 4),),)),), self.coded(craft, ("back",))),
                         ("fault", ((2,), (((2,), None, ()),))))
        craft = falling(starts=((4,),))
        self.assertEqual(checked_code(craft, NEVER_FOUR, self.coded(craft, ("back",))),
                         ("breaks", ((4,), (((4,), None, ()),))))

    def test_forms_in_states(self):
        craft = falling()
        code = self.coded(craft, ("value", 1, (1, 0)), ("fstore", 0, 1), ("number", 0, 1), ("row", 0), ("end",),
                          cells=(0, 2, 1), forms=(1, 0))
        word, states = checked_code(craft, NEVER_FOUR, code)
        self.assertEqual((word, {state[0] for state in states}), ("holds", {((), ((0, 0),)), ((), ((1, 0),))}))
        self.assertIs(is_holding_code(craft, NEVER_FOUR, code, states), True)
        for key in [((), ((2, 0),)), ((0,), ((0, 0),)), ((), ()), ((), ((0, 0),), ()), ((), ((1, 6),)), ((), (1, 0)), 0,
                    ((), [(0, 0)]), [(), ((0, 0),)], None, ((), ((False, 0),))]:
            thing = ((key,) + states[0][1:],) + states[1:]
            self.assertIs(is_holding_code(craft, NEVER_FOUR, code, thing), False)
        # A state that needn't come is let with all that follow it.
        more = tuple(sorted(states + ((((), ((3, 0),)), 1, (0,), None, (2,), (0,)),)))
        self.assertIs(is_holding_code(craft, NEVER_FOUR, code, more), True)

    def test_cells_behind_knock_ones(self):
        """A name that is not kept stands behind the knocks, whatever the handler does to these."""
        craft, b = falling(), ("name", "b")
        program = Program(shape_of(craft), craft.plant.form, ("a",), ("k", "l"), (), (
            (("set", "b", ("number", 1)), ("set", "a", b), ("row", b)),), (("set", "k", ("number", 7)),))
        code, _ = compiled(program)
        word, states = checked_code(craft, NEVER_FOUR, code)
        self.assertEqual((word, {state[0] for state in states}), ("holds", {((0,), ()), ((1,), ())}))
        self.check(support.Slow(craft), NEVER_FOUR, ChoosesByCode(code), (word, states))

    def test_errors_in_their_order(self):
        craft = falling()
        apart, other = self.coded(craft, ("end",)), self.coded(falling(levers=((0,),)), ("end",))
        joined = self.coded(craft, ("load", 0, 1), ("end",), cells=(1, 1, 0))
        wrong = self.coded(falling(levers=((0,),)), ("load", 0, 1), ("end",), cells=(1, 1, 0))
        for call in [lambda code: checked_code(craft, (), code), lambda code: is_holding_code(craft, (), code, None),
                     lambda code: is_failing_code(craft, (), code, None)]:
            for code in (other, wrong):
                with self.assertRaises(NoShape):
                    call(code)
            with self.assertRaises(NotApart):
                call(joined)
            call(apart)
        for thing in support.junk():
            self.assertIs(is_holding_code(craft, (), apart, thing), False)
            self.assertIs(is_failing_code(craft, (), apart, thing), False)


if __name__ == "__main__":
    unittest.main()
