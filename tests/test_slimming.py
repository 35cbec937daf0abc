"""Promise 6.2: machines that do another one's work, clashes, and slim machines."""

import itertools
import random
import unittest

from steadycraft.crafts import Craft
from steadycraft.errors import NoMachine, NoPoint
from steadycraft.games import steady
from steadycraft.machines import is_machine, machine_of
from steadycraft.slimming import clash, does_work, is_slim, joined, slim
from tests import support
from tests.playing import in_order
from tests.test_games import falling, some_games
from tests.test_machines import judged, some_machine

X = ("in", 0)


def craft_of(rows=3, lacks=1):
    return Craft(support.small_plant(), tuple((row,) for row in range(rows)), ((X, 0, lacks),), (1, 1, False), ((2,),))


def walked(machine, point, readings):
    """The rows along readings; None if one has no answer."""
    rows = []
    for reading in readings:
        if reading not in machine[point]:
            return None
        row, point = machine[point][reading]
        rows.append(row)
    return rows


def least_clash(machine, one, other, most):
    """The least of the shortest tuples of readings: all of them are tried, in their order."""
    readings = in_order({reading for point in machine for reading in point})
    for many in range(1, most + 1):
        for told in itertools.product(readings, repeat=many):
            rows, others = walked(machine, one, told), walked(machine, other, told)
            if rows is not None and others is not None and rows[-1] != others[-1]:
                return told
    return None


def merged(machine, one, other):
    """The machine that comes of joining, part by part of all points; None if it can't be done."""
    part_of = list(range(len(machine)))

    def unite(a, b):
        a, b = part_of[a], part_of[b]
        for point, part in enumerate(part_of):
            if part == max(a, b):
                part_of[point] = min(a, b)
        return a != b

    unite(one, other)
    changed = True
    while changed:
        changed = False
        for a, b in itertools.combinations(range(len(machine)), 2):
            if part_of[a] == part_of[b]:
                for reading in set(machine[a]) & set(machine[b]):
                    if machine[a][reading][0] != machine[b][reading][0]:
                        return None
                    changed = unite(machine[a][reading][1], machine[b][reading][1]) or changed
    least = sorted({part_of.index(part) for part in part_of})
    number = {part_of[point]: at for at, point in enumerate(least)}
    found = [{} for _ in least]
    for point, answers in enumerate(machine):
        for reading, (row, behind) in answers.items():
            found[number[part_of[point]]][reading] = (row, number[part_of[behind]])
    return tuple(found)


def works(machine, thing, most):
    """Whether a thing has a machine's answers, for all tuples of so many readings."""
    readings = in_order({reading for point in machine for reading in point})
    for told in itertools.product(readings, repeat=most):
        for many in range(most + 1):
            rows = walked(machine, 0, told[:many])
            if rows is not None and walked(thing, 0, told[:many]) != rows:
                return False
    return True


def is_without_joints(machine):
    return all(merged(machine, one, other) is None for one, other in itertools.combinations(range(len(machine)), 2))


def some_machines(seed, many, points=(1, 2, 3, 4, 5), most_readings=3):
    chance = random.Random(seed)
    craft = craft_of(2)
    for _ in range(many):
        readings = chance.sample([(None,), (-1,), (0,), (1,), (2,)], chance.randint(1, most_readings))
        machine = some_machine(chance, craft, chance.choice(points), readings)
        if chance.random() < 0.5:
            # Like rows at most points, and most answers there: what clashes does so further on.
            machine = tuple({reading: (int(at == 0), chance.randrange(len(machine))) for reading in readings
                             if chance.random() < 0.9} for at in range(len(machine)))
        yield chance, craft, machine


class ClashTest(unittest.TestCase):
    def test_against_all_readings(self):
        told = {}
        for chance, craft, machine in some_machines(721, 250, (2, 3, 4)):
            one, other = chance.randrange(len(machine)), chance.randrange(len(machine))
            found = clash(craft, machine, one, other)
            self.assertEqual(found, least_clash(machine, one, other, 5))
            self.assertEqual(clash(craft, machine, other, one), found)
            told[found and len(found)] = told.get(found and len(found), 0) + 1
        self.assertGreater(min(told[None], told[1], told[2]), 10)

    def test_the_least_of_the_shortest(self):
        craft = craft_of()
        machine = ({(5,): (0, 2), (None,): (1, 2), (-3,): (0, 3)}, {(5,): (0, 3), (None,): (1, 3), (-3,): (0, 2)},
                   {(9,): (0, 0), (1,): (2, 2)}, {(9,): (1, 0), (1,): (1, 1)})
        self.assertEqual(clash(craft, machine, 0, 1), ((None,), (1,)))
        self.assertEqual(clash(craft, machine, 2, 3), ((1,),))
        self.assertIsNone(clash(craft, machine, 0, 2))
        self.assertIsNone(clash(craft, machine, 0, 0))
        longer = ({(1,): (0, 1)}, {(1,): (0, 2)}, {(1,): (1, 2)}, {(1,): (0, 3)})
        self.assertEqual(clash(craft, longer, 0, 3), ((1,),) * 3)
        self.assertEqual(clash(craft, longer, 1, 0), ((1,),) * 2)

    def test_far_clashes(self):
        craft, many = craft_of(), 1500
        machine = tuple({(1,): (0 if at < many - 1 else 1, min(at + 1, many - 1))} for at in range(many))
        self.assertEqual(clash(craft, machine, 0, 1), ((1,),) * (many - 1))

    def test_errors(self):
        craft, machine = craft_of(), ({(1,): (0, 1)}, {})
        for call in (clash, joined):
            for thing in [(), list(machine)] + support.junk():
                with self.assertRaises(NoMachine):
                    call(craft, thing, None, None)
            for point in [2, -1, True, False, 10 ** 199] + [one for one in support.junk() if type(one) is not int]:
                with self.assertRaises(NoPoint):
                    call(craft, machine, point, 0)
                with self.assertRaises(NoPoint):
                    call(craft, machine, 0, point)
                with self.assertRaises(NoPoint):
                    call(craft, machine, point, None)


class JoinedTest(unittest.TestCase):
    def test_against_parts(self):
        told = {True: 0, False: 0}
        for chance, craft, machine in some_machines(722, 400, (2, 3, 4, 5, 6)):
            one, other = chance.randrange(len(machine)), chance.randrange(len(machine))
            right = merged(machine, one, other)
            before = tuple(dict(point) for point in machine)
            self.assertEqual(joined(craft, machine, one, other), right)
            self.assertEqual(joined(craft, machine, other, one), right)
            self.assertEqual(machine, before)
            told[right is None] += 1
            if right is not None:
                self.assertTrue(judged(craft, right))
                self.assertTrue(works(machine, right, 3))
        self.assertGreater(min(told.values()), 60)

    def test_closed_up(self):
        craft = craft_of()
        machine = ({(1,): (0, 3)}, {(2,): (1, 4)}, {(3,): (2, 2)}, {(1,): (0, 0)}, {(4,): (0, 1)})
        self.assertEqual(joined(craft, machine, 3, 1),
                         ({(1,): (0, 1)}, {(1,): (0, 0), (2,): (1, 3)}, {(3,): (2, 2)}, {(4,): (0, 1)}))
        self.assertEqual(joined(craft, machine, 3, 0),
                         ({(1,): (0, 0)}, {(2,): (1, 3)}, {(3,): (2, 2)}, {(4,): (0, 1)}))
        self.assertEqual(joined(craft, machine, 2, 2), machine)
        unlike = ({(1,): (0, 1)}, {(1,): (0, 2)}, {(1,): (1, 2)})
        self.assertIsNone(joined(craft, unlike, 0, 1))
        # No clash of these two, but what becomes one with them has unlike rows.
        third = ({(1,): (0, 2), (2,): (0, 2)}, {(1,): (0, 3), (2,): (0, 4)}, {}, {(7,): (0, 2)}, {(7,): (1, 2)})
        self.assertIsNone(clash(craft, third, 0, 1))
        self.assertIsNone(joined(craft, third, 0, 1))

    def test_new_dicts(self):
        craft, machine = craft_of(), ({(1,): (0, 1)}, {(2,): (0, 0)})
        for point in joined(craft, machine, 0, 1) + joined(craft, machine, 0, 0) + slim(craft, machine):
            point.clear()
        self.assertEqual(machine, ({(1,): (0, 1)}, {(2,): (0, 0)}))


class SlimTest(unittest.TestCase):
    def test_by_chance(self):
        smaller = 0
        for chance, craft, machine in some_machines(723, 300, (1, 2, 4, 6, 8)):
            before = tuple(dict(point) for point in machine)
            found = slim(craft, machine)
            self.assertEqual(machine, before)
            self.assertTrue(judged(craft, found))
            self.assertTrue(is_without_joints(found))
            self.assertTrue(works(machine, found, 4))
            self.assertIs(is_slim(craft, machine, found), True)
            self.assertIs(is_slim(craft, machine, machine), is_without_joints(machine))
            smaller += len(found) < len(machine)
        self.assertGreater(smaller, 150)

    def test_points_that_none_leads_to(self):
        craft = craft_of()
        machine = ({(1,): (0, 0)}, {(1,): (1, 1)}, {(1,): (1, 2)}, {(2,): (0, 3)})
        found = slim(craft, machine)
        self.assertIs(is_slim(craft, machine, found), True)
        self.assertTrue(is_without_joints(found))
        self.assertIs(is_slim(craft, machine, ({(1,): (0, 0)},)), True)
        self.assertIs(is_slim(craft, machine, ({(1,): (0, 0)}, {(1,): (1, 1)})), True)
        self.assertIs(is_slim(craft, machine, ({(1,): (0, 0)}, {(1,): (1, 1)}, {(1,): (1, 2)})), False)
        self.assertIs(is_slim(craft, machine, ({(1,): (0, 0)}, {(2,): (1, 1)})), False)

    def test_of_choices(self):
        many = 0
        for _, play, _ in some_games(724, 40):
            word, choice = steady(play.craft, play.wishes)
            if word == "made":
                machine = machine_of(play.craft, play.wishes, choice)
                found = slim(play.craft, machine)
                self.assertIs(is_slim(play.craft, machine, found), True)
                self.assertTrue(is_without_joints(found))
                many += len(found) < len(machine)
        self.assertGreater(many, 10)

    def test_many_points(self):
        craft = craft_of()
        machine = tuple({(at // 7,): (at // 7 % 3, (at * 13 + 5) % 4000)} for at in range(4000))
        found = slim(craft, machine)
        self.assertIs(does_work(craft, machine, found), True)
        self.assertIs(is_slim(craft, machine, found), True)
        self.assertLess(len(found), 600)

    def test_no_machine(self):
        for thing in [(), [{}], ({(1,): (0, 1)},)] + support.junk():
            with self.assertRaises(NoMachine):
                slim(craft_of(), thing)
            for judge in (does_work, is_slim):
                with self.assertRaises(NoMachine):
                    judge(craft_of(), thing, ({},))


class DoesWorkTest(unittest.TestCase):
    def near(self, chance, machine):
        """Machines with a row otherwise, an answer out, one more, points in another order."""
        found = [machine + ({},), machine[:-1], machine[::-1], tuple(dict(point) for point in machine)]
        for _ in range(6):
            at = chance.randrange(len(machine))
            point = dict(machine[at])
            if point:
                reading = chance.choice(list(point))
                row, behind = point[reading]
                found.append(machine[:at] + ({**point, reading: (1 - row, behind)},) + machine[at + 1:])
                found.append(machine[:at] + ({**point, reading: (row, chance.randrange(len(machine)))},)
                             + machine[at + 1:])
                found.append(machine[:at] + ({one: told for one, told in point.items() if one != reading},)
                             + machine[at + 1:])
            found.append(machine[:at] + ({**point, (8,): (0, 0)},) + machine[at + 1:])
        order = list(range(1, len(machine)))
        chance.shuffle(order)
        order = [0] + order
        found.append(tuple({reading: (row, order.index(behind)) for reading, (row, behind) in machine[at].items()}
                           for at in order))
        return found

    def test_near_machines(self):
        told = {True: 0, False: 0}
        for chance, craft, machine in some_machines(725, 150, (1, 2, 3), 2):
            for thing in self.near(chance, machine):
                right = judged(craft, thing) and works(machine, thing, 10)
                self.assertIs(does_work(craft, machine, thing), right)
                told[right] += 1
                self.assertIs(is_slim(craft, machine, thing), right and is_without_joints(thing))
        self.assertGreater(min(told.values()), 300)

    def test_judges_any_object(self):
        craft, machine = craft_of(), ({(1,): (0, 0)},)
        for thing in support.junk() + [[{(1,): (0, 0)}], ({(1,): (False, 0)},), ({(True,): (0, 0)},)]:
            self.assertIs(does_work(craft, machine, thing), False)
            self.assertIs(is_slim(craft, machine, thing), False)
        self.assertIs(does_work(craft, ({},), machine), True)
        self.assertIs(does_work(craft, ({}, {(1,): (0, 0)}), ({},)), True)
        self.assertIs(is_slim(falling(), ({},), ({},)), True)


if __name__ == "__main__":
    unittest.main()
