"""Promise 6.1: machines, their rows, and machines of choices."""

import random
import unittest

from steadycraft.crafts import Craft
from steadycraft.errors import NoChoice, NoMachine, NoReadings
from steadycraft.games import is_choice, steady
from steadycraft.machines import is_machine, machine_of, rows_of
from tests import support
from tests.playing import is_number_to, is_reading
from tests.test_games import NEVER_FOUR, falling, some_games, staying

X = ("in", 0)


def judged(craft, thing):
    """Whether a thing has the form of a machine."""
    if type(thing) is not tuple or not 1 <= len(thing) <= 4000:
        return False
    for point in thing:
        if type(point) is not dict:
            return False
        for reading, answer in point.items():
            if not is_reading(craft, reading) or type(answer) is not tuple or len(answer) != 2:
                return False
            if not is_number_to(answer[0], len(craft.levers) - 1) or not is_number_to(answer[1], len(thing) - 1):
                return False
    return True


def some_machine(chance, craft, many, readings=None):
    """So many points; at each some readings have answers."""
    if readings is None:
        readings = some_readings(chance, craft, 4)
    return tuple({reading: (chance.randrange(len(craft.levers)), chance.randrange(many))
                  for reading in chance.sample(readings, chance.randint(0, len(readings)))} for _ in range(many))


def some_readings(chance, craft, many):
    found = set()
    for _ in range(many):
        reading = tuple(chance.choice((None, 0, 1, 2)) for _ in craft.sensors)
        found.add(reading + ((chance.randint(0, craft.lengths[1]),) if craft.lengths[2] else ()))
    return sorted(found, key=repr)


class IsMachineTest(unittest.TestCase):
    def test_against_the_form(self):
        chance, told = random.Random(701), {True: 0, False: 0}
        for _ in range(80):
            craft = support.some_craft(chance)
            machine = some_machine(chance, craft, chance.randint(1, 4))
            for thing in [machine] + self.otherwise(chance, machine):
                right = judged(craft, thing)
                self.assertIs(is_machine(craft, thing), right)
                told[right] += 1
                if not right:
                    with self.assertRaises(NoMachine):
                        rows_of(craft, thing, None)
        self.assertGreater(min(told.values()), 300)

    def otherwise(self, chance, machine):
        found = [list(machine), machine[0], machine + (None,), machine + ([],), (), machine[1:], machine + ({},)]
        for odd in (None, 1, "a", (), (None,), (True,), (1, 1), (1, 0), (0, 7), b"a"):
            found.append((dict(machine[0]), *machine[1:], {odd: (0, 0)}))
        for at, point in enumerate(machine):
            for reading, answer in point.items():
                for other in support.changed(answer, chance.random(), 6, [True, 4, None]):
                    found.append(machine[:at] + ({**point, reading: other},) + machine[at + 1:])
                for other in support.changed(reading, chance.random(), 4, [True, None, 3]):
                    if type(other) is not list and not (type(other) is tuple and list in map(type, other)):
                        rest = {one: told for one, told in point.items() if one != reading}
                        found.append(machine[:at] + ({**rest, other: answer},) + machine[at + 1:])
        return found

    def test_how_many_points(self):
        craft = falling()
        self.assertIs(is_machine(craft, ({},)), True)
        self.assertIs(is_machine(craft, tuple({(at,): (1, 3999)} for at in range(4000))), True)
        self.assertIs(is_machine(craft, tuple({} for _ in range(4001))), False)
        self.assertIs(is_machine(craft, ()), False)
        for thing in support.junk():
            self.assertIs(is_machine(craft, thing), False)
            self.assertIs(is_machine(craft, (thing,)), thing == {})

    def test_readings_need_not_come(self):
        craft = Craft(support.small_plant(), ((0,),), ((X, 0, 0), (X, 1, 1)), (2, 3, True), ((2,),))
        for reading, right in [((77, None, 0), True), ((None, None, 3), True), ((10 ** 199, -5, 1), True),
                               ((1, 2), False), ((1, 2, 4), False), ((1, 2, None), False), ((1, 2, -1), False),
                               ((1, True, 1), False), ((1, 2, True), False), ((1, 2, 3, 0), False)]:
            self.assertIs(is_machine(craft, ({reading: (0, 0)},)), right)


class RowsOfTest(unittest.TestCase):
    def test_up_to_the_first_without_an_answer(self):
        craft = falling()
        machine = ({(1,): (1, 1), (2,): (0, 0)}, {(2,): (0, 2), (1,): (1, 1)}, {})
        for readings, rows in [((), []), (((1,),), [1]), (((2,), (2,), (1,)), [0, 0, 1]), (((3,), (1,)), []),
                               (((1,), (2,), (1,), (2,)), [1, 0]), (((None,),), []), (((1,), (1,), (2,)), [1, 1, 0])]:
            for told in (readings, list(readings)):
                found = rows_of(craft, machine, told)
                self.assertIsInstance(found, list)
                self.assertEqual(found, rows)
                found.append(7)
                self.assertEqual(rows_of(craft, machine, told), rows)

    def test_by_chance(self):
        chance = random.Random(702)
        for _ in range(100):
            craft = support.some_craft(chance)
            readings = some_readings(chance, craft, 3)
            machine = some_machine(chance, craft, 3, readings)
            told = chance.choices(readings, k=6)
            rows, point = [], 0
            for reading in told:
                if reading not in machine[point]:
                    break
                rows.append(machine[point][reading][0])
                point = machine[point][reading][1]
            self.assertEqual(rows_of(craft, machine, told), rows)

    def test_errors_in_order(self):
        craft, machine = falling(), ({(1,): (1, 0)},)
        wrong = [None, {}, "a", ((True,),), [(1, 2)], ((1,), None), ([1],), 5, ((),), {(1,): 2}]
        junk = [one for one in support.junk() if one not in ([], ())]
        for readings in wrong + junk:
            with self.assertRaises(NoReadings):
                rows_of(craft, machine, readings)
            with self.assertRaises(NoMachine):
                rows_of(craft, machine + (None,), readings)
        for thing in support.junk():
            with self.assertRaises(NoMachine):
                rows_of(craft, thing, ())


class MachineOfTest(unittest.TestCase):
    def right(self, play, choice):
        """The machine by the words of the document, points numbered as they are met."""
        points, machine = [(play.first(),)], []
        while len(machine) < len(points):
            point = {}
            for knowledge in points[len(machine)]:
                point.update(play.behind(knowledge))
            answers = {}
            for reading in sorted(point, key=lambda one: [(item is not None, item or 0) for item in one]):
                row = choice[point[reading]]
                behind = play.led(point[reading], row)
                if behind not in points:
                    points.append(behind)
                answers[reading] = (row, points.index(behind))
            machine.append(answers)
        return tuple(machine)

    def test_against_the_words(self):
        many = 0
        for chance, play, nodes in some_games(703, 120):
            word, choice = steady(play.craft, play.wishes)
            if word != "made":
                continue
            machine = machine_of(play.craft, play.wishes, choice)
            self.assertEqual(machine, self.right(play, choice))
            self.assertIs(is_machine(play.craft, machine), True)
            many += 1
            # Any other safe rows are a choice as well.
            ranks = play.ranks(nodes)
            safe = {node: [row for row in range(len(play.craft.levers))
                           if not any(child in ranks for child in nodes[node][row])] for node in nodes
                    if node not in ranks}
            other = {node: chance.choice(rows) for node, rows in safe.items()}
            self.assertIs(is_choice(play.craft, play.wishes, other), True)
            self.assertEqual(machine_of(play.craft, play.wishes, other), self.right(play, other))
        self.assertGreater(many, 60)

    def test_all_lengths_are_one_point(self):
        craft = Craft(support.small_plant(), ((-1,),), ((("number", 7), 0, 0),), (1, 3, True), ((2,),))
        machine = machine_of(craft, (), steady(craft, ())[1])
        self.assertEqual(machine[0], {(7, 0): (0, 1)})
        self.assertEqual(list(machine[1]), [(7, 1), (7, 2), (7, 3)])
        self.assertEqual([answer[1] for answer in machine[1].values()], [2, 2, 2])

    def test_ascending_as_met(self):
        craft = Craft(support.small_plant(), ((-1,),), ((X, 1, 1),), (1, 1, False), ((2,),))
        machine = machine_of(craft, (), steady(craft, ())[1])
        self.assertEqual(list(machine[0]), [(None,), (1,), (2,), (3,)])
        self.assertEqual([answer[1] for answer in machine[0].values()], [1, 2, 2, 2])

    def test_new_dicts(self):
        craft = falling()
        choice = steady(craft, NEVER_FOUR)[1]
        machine = machine_of(craft, NEVER_FOUR, choice)
        told = tuple(dict(point) for point in machine)
        for point in machine:
            point.clear()
        self.assertEqual(machine_of(craft, NEVER_FOUR, choice), told)

    def test_no_choice(self):
        craft = falling()
        choice = steady(craft, NEVER_FOUR)[1]
        node = next(iter(choice))
        for thing in [{}, {**choice, node: 1 - choice[node]}, {**choice, node: 2}, list(choice)] + support.junk():
            with self.assertRaises(NoChoice):
                machine_of(craft, NEVER_FOUR, thing)
        with self.assertRaises(NoChoice):
            machine_of(falling(starts=((2,), (4,))), NEVER_FOUR, choice)

    def test_of_many_points(self):
        craft = staying(300)
        machine = machine_of(craft, (), steady(craft, ())[1])
        self.assertEqual(len(machine), 1 + 300)
        self.assertEqual(machine[0][(7, 0)], (0, 8))
        self.assertEqual(machine[8], {(7, length): (0, 8) for length in (1, 2, 3)})


if __name__ == "__main__":
    unittest.main()
