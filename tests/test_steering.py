"""Promise 7.10: programs that tell machines, and code that steers as a machine."""

import random
import unittest

from steadycraft.codes import Code
from steadycraft.compiling import compiled
from steadycraft.crafts import Craft
from steadycraft.errors import NoMachine, NoShape, TooMany
from steadycraft.programs import Program
from steadycraft.running import is_apart, ran
from steadycraft.steering import astray, shape_of, steers, table_program
from tests import support
from tests.test_games import line
from tests.test_machines import some_machine, some_readings

X = ("in", 0)
FAR = 10 ** 9


def craft_of(sensors=1, lengths=(1, 1, False), rows=2, lacks=0):
    return Craft(line(0, 9, X), tuple((row,) for row in range(rows)), ((X, 0, lacks),) * sensors, lengths, ((0,),))


def coded(craft, *rows, cells=(0, 0, 0)):
    return Code(shape_of(craft), craft.plant.form, cells, (0, 0), rows + (("end",),), len(rows))


def first_stand(code):
    return (0,) * code.cells[0], (0,) * code.cells[1], ((0, 0),) * code.forms[0]


def is_heard(reading, craft):
    """Whether a device can have a reading."""
    return all(item is None or abs(item) <= FAR for item in reading) and (not craft.lengths[2] or reading[-1] <= 6)


def ordered(readings):
    return sorted(readings, key=lambda reading: [(item is not None, item or 0) for item in reading])


def slowly_astray(craft, machine, code, most):
    """The least of the shortest tuples of readings, up to so many, by going through all of them; None if none is."""
    rows = [((), 0, first_stand(code), 0)]
    for _ in range(most):
        further = []
        for readings, point, stand, chosen in rows:
            for reading in ordered(reading for reading in machine[point] if is_heard(reading, craft)):
                row, behind = machine[point][reading]
                word, found, after, _, _ = ran(code, stand, reading, ())
                last = chosen if found is None else found
                if word != "done" or last != row:
                    return readings + (reading,)
                further.append((readings + (reading,), behind, after, last))
        rows = further[:3000]
    return None


class ShapeTest(unittest.TestCase):
    def test_shape(self):
        for sensors in (1, 2, 3):
            for rows in (1, 5):
                for told in (False, True):
                    craft = craft_of(sensors, (1, 3, told), rows)
                    self.assertEqual(shape_of(craft), (sensors, told, rows))
                    self.assertIs(shape_of(craft)[1], told)


class TableProgramTest(unittest.TestCase):
    def check(self, craft, machine):
        program = table_program(craft, machine)
        self.assertEqual((program.shape, program.form, program.knocks), (shape_of(craft), craft.plant.form, ()))
        code, _ = compiled(program)
        self.assertTrue(is_apart(code))
        if sum(map(len, machine)) < 1000:
            self.assertIs(astray(craft, machine, code), None)
        self.assertIs(steers(craft, machine, code), True)
        return program, code

    def test_by_chance(self):
        chance = random.Random(1001)
        for _ in range(150):
            craft = support.some_craft(chance)
            machine = some_machine(chance, craft, chance.randint(1, 6), some_readings(chance, craft, chance.randint(1, 9)))
            _, code = self.check(craft, machine)
            self.assertIs(slowly_astray(craft, machine, code, 4), None)
            self.follow(chance, machine, code, is_heard, craft)

    def follow(self, chance, machine, code, heard, craft):
        """Led by drawn readings for which there are answers, period by period."""
        point, stand, chosen = 0, first_stand(code), 0
        for _ in range(30):
            readings = [reading for reading in ordered(machine[point]) if heard(reading, craft)]
            if not readings:
                return
            reading = chance.choice(readings)
            row, point = machine[point][reading]
            word, found, stand, _, _ = ran(code, stand, reading, ())
            chosen = chosen if found is None else found
            self.assertEqual((word, chosen), ("done", row))

    def test_answers_for_some_readings_or_none(self):
        craft = craft_of(2, (1, 3, True), 3, 2)
        for machine in [({},), ({}, {(1, 2, 3): (1, 0)}), ({(None, None, 0): (2, 0)},), ({(1, 1, 0): (1, 1)}, {}),
                        ({(None, 1, 0): (2, 1), (1, None, 0): (1, 0), (None, None, 0): (0, 0), (1, 1, 0): (1, 1),
                          (1, 2, 0): (2, 0), (1, 1, 1): (0, 0), (None, 1, 2): (0, 1)}, {(5, -5, 3): (0, 0)}),
                        ({(FAR, -FAR, 0): (1, 0), (FAR - 1, -FAR, 0): (2, 0)},)]:
            self.check(craft, machine)

    def test_readings_that_no_device_has(self):
        craft = craft_of(1, (1, 1, False), 3)
        machine = ({(FAR + 1,): (1, 1), (-10 ** 100,): (2, 0), (5,): (1, 1), (FAR,): (2, 0)}, {(10 ** 199,): (1, 0)})
        self.check(craft, machine)
        self.check(craft, ({(FAR + 1,): (1, 0)},))

    def test_many_readings(self):
        craft = craft_of(3, (1, 6, True), 5, 1)
        chance = random.Random(1002)
        items = [None, -3, 0, 1, 7, FAR]
        every = [(one, two, three, length) for one in items for two in items for three in items for length in range(7)]
        wide = tuple({reading: (chance.randrange(5), chance.randrange(2)) for reading in half}
                     for half in (every[:1000], every[512:]))
        self.assertEqual(sum(map(len, wide)), 2000)
        long = tuple({chance.choice(every): (chance.randrange(5), at)} for at in range(1, 2000)) + ({every[5]: (4, 0)},)
        single = ({(at, 0, 0, 0): (at % 5, 0) for at in range(2000)},)
        pairs = tuple({reading: (chance.randrange(5), (at + 1) % 4000) for reading in every[:at % 2]} for at in range(4000))
        for machine in (wide, long, single, pairs):
            self.assertEqual(sum(map(len, machine)), 2000)
            self.check(craft, machine)

    def test_too_many_readings(self):
        craft = craft_of()
        for machine in [({(at,): (0, 0) for at in range(2001)},), ({(at,): (0, 1) for at in range(1000)},
                                                                  {(at,): (0, 1) for at in range(1001)}),
                        ({(at,): (0, 0) for at in range(FAR, FAR + 2001)},)]:
            with self.assertRaises(TooMany) as caught:
                table_program(craft, machine)
            self.assertEqual(caught.exception.most, 2000)
        self.check(craft, ({(at,): (at % 2, 1) for at in range(1000)}, {(at,): (0, 1) for at in range(1000)}))

    def test_no_machine(self):
        craft = craft_of()
        for thing in support.junk() + [(), ({(0,): (2, 0)},), [{}], ({(0,): (0, 1)},), ({(at, 1): 1 for at in range(3000)},)]:
            with self.assertRaises(NoMachine):
                table_program(craft, thing)

    def test_equal_calls(self):
        craft = craft_of()
        machine = ({(1,): (1, 0), (0,): (0, 0), (None,): (0, 0)},)
        other = ({(None,): (0, 0), (0,): (0, 0), (1,): (1, 0)},)
        program = table_program(craft, machine)
        self.assertIsInstance(program, Program)
        self.assertEqual(program, table_program(craft_of(), other))
        self.assertEqual(machine, ({(1,): (1, 0), (0,): (0, 0), (None,): (0, 0)},))


class AstrayTest(unittest.TestCase):
    def test_with_one_number_otherwise(self):
        chance, told = random.Random(1003), {True: 0, False: 0}
        for at in range(120):
            craft = support.some_craft(chance)
            machine = some_machine(chance, craft, chance.randint(1, 3), some_readings(chance, craft, 3))
            code, _ = compiled(table_program(craft, machine))
            rows = list(code.rows)
            for _ in range(3):
                place = chance.randrange(len(rows))
                if rows[place][0] == "number":
                    rows[place] = rows[place][:2] + (rows[place][2] + chance.choice((-1, 1)),)
            bent = Code(code.shape, code.form, code.cells, code.forms, tuple(rows), code.handler)
            found, slow = astray(craft, machine, bent), slowly_astray(craft, machine, bent, 4)
            self.assertIs(steers(craft, machine, bent), found is None)
            self.assertTrue(found == slow or slow is None and len(found) > 4)
            told[found is None] += 1
        self.assertGreater(min(told.values()), 20)

    def test_the_least_of_the_shortest(self):
        craft = craft_of(1, (1, 1, False), 3, 1)
        right = ("count", 0, 0), ("row", 0)
        for machine, due in [({(None,): (1, 0), (1,): (2, 0), (2,): (2, 0)}, ((None,),)),
                             ({(None,): (0, 0), (1,): (2, 0), (0,): (1, 0)}, ((0,),)),
                             ({(None,): (0, 0), (1,): (1, 0), (-1,): (0, 0)}, ((-1,),)),
                             ({(None,): (0, 0), (1,): (1, 0), (2,): (2, 0)}, None), ({(3,): (0, 0)}, ((3,),))]:
            self.assertEqual(astray(craft, (machine,), coded(craft, *right)), due)
        machine = ({(0,): (0, 0), (1,): (1, 1), (2,): (2, 2)}, {(0,): (0, 1), (2,): (1, 1)}, {(1,): (0, 0)})
        self.assertEqual(astray(craft, machine, coded(craft, *right)), ((1,), (2,)))

    def test_the_row_that_stays_chosen(self):
        craft = craft_of(1, (1, 1, False), 2)
        # A row is chosen at the count 1 alone: at others what was chosen last stays, row 0 at first.
        code = coded(craft, ("count", 0, 0), ("number", 1, 1), ("same", 0, 1, 4), ("end",), ("row", 0))
        machine = ({(0,): (0, 0), (1,): (1, 1)}, {(0,): (1, 1), (1,): (1, 1)})
        self.assertIs(astray(craft, machine, code), None)
        self.assertEqual(astray(craft, ({(0,): (1, 0)},), code), ((0,),))
        self.assertEqual(astray(craft, ({(0,): (0, 0), (1,): (1, 0)},), code), ((1,), (0,)))

    def test_faults_and_late_ones(self):
        craft = craft_of(1, (1, 1, False), 2)
        machine = ({(0,): (0, 1)}, {(0,): (0, 1), (1,): (0, 1)})
        for rows in [(("count", 0, 0), ("number", 1, FAR), ("plus", 0, 0, 1), ("number", 0, 0), ("row", 0)),
                     (("count", 0, 0), ("number", 1, 1), ("same", 0, 1, 2), ("number", 0, 0), ("row", 0))]:
            self.assertEqual(astray(craft, machine, coded(craft, *rows)), ((0,), (1,)))

    def test_stands_go_on(self):
        craft = craft_of(1, (1, 1, False), 2)
        # The third period chooses row 1.
        code = coded(craft, ("load", 0, 0), ("number", 1, 1), ("plus", 0, 0, 1), ("store", 0, 0), ("number", 2, 3),
                     ("same", 0, 2, 7), ("end",), ("row", 1), cells=(1, 0, 0))
        self.assertEqual(astray(craft, ({(0,): (0, 0)},), code), ((0,),) * 3)
        machine = ({(0,): (0, 1)}, {(0,): (0, 2)}, {(0,): (1, 3)}, {})
        self.assertIs(astray(craft, machine, code), None)
        self.assertIs(steers(craft, machine, code), True)

    def test_too_many(self):
        craft = craft_of(1, (1, 1, False), 2)
        count = (("load", 0, 0), ("number", 1, 1), ("plus", 0, 0, 1))
        endless = coded(craft, *count, ("store", 0, 0), cells=(1, 0, 0))
        for judge in (steers, astray):
            with self.assertRaises(TooMany) as caught:
                judge(craft, ({(0,): (0, 0)},), endless)
            self.assertEqual(caught.exception.most, 100000)
        # It goes round behind just so many triples, or one more.
        for many in (100000, 100001):
            code = coded(craft, *count, ("number", 2, many), ("less", 0, 2, 6), ("number", 0, 0), ("store", 0, 0),
                         cells=(1, 0, 0))
            if many == 100000:
                self.assertIs(steers(craft, ({(0,): (0, 0)},), code), True)
            else:
                with self.assertRaises(TooMany):
                    steers(craft, ({(0,): (0, 0)},), code)
        # It goes astray sooner.
        far = coded(craft, *count, ("store", 0, 0), ("number", 2, 99999), ("same", 0, 2, 7), ("end",), ("row", 1),
                    cells=(1, 0, 0))
        self.assertEqual(len(astray(craft, ({(0,): (0, 0)},), far)), 99999)

    def test_errors_in_their_order(self):
        craft, code = craft_of(), coded(craft_of())
        wrong = coded(craft_of(2))
        for judge in (steers, astray):
            for thing in support.junk():
                for told in (code, wrong):
                    with self.assertRaises(NoMachine):
                        judge(craft, thing, told)
            for other in [craft_of(2), craft_of(1, (1, 1, True)), craft_of(1, (1, 1, False), 3)]:
                with self.assertRaises(NoShape):
                    judge(craft, ({(0,): (0, 0)},), coded(other))
            judge(craft, ({(0,): (0, 0)},), code)


if __name__ == "__main__":
    unittest.main()
