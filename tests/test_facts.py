"""The facts that the document states over several parts: choices, machines, code, and the checker that lets them."""

import random
import unittest

from steadycraft.checking import checked, checked_code, is_failing, is_failing_code, is_holding, parting
from steadycraft.coarse import machine_by, steady_by
from steadycraft.compiling import compiled
from steadycraft.crafts import Craft
from steadycraft.errors import BadCraft
from steadycraft.games import least_rank, steady
from steadycraft.machines import machine_of
from steadycraft.plants import Plant
from steadycraft.programs import Program
from steadycraft.running import is_apart, ran
from steadycraft.slimming import slim
from steadycraft.steering import astray, steers, table_program
from steadycraft.wishes import harder
from tests.playing import plays
from tests.test_checking import answering, bent, every_reading
from tests.test_games import some_games


class MainFactTest(unittest.TestCase):
    def test_machines_and_code_of_choices_are_let(self):
        many = 0
        for _, play, _ in some_games(1201, 90):
            craft, wishes = play.craft, play.wishes
            word, choice = steady(craft, wishes)
            if word == "barred":
                continue
            machine = machine_of(craft, wishes, choice)
            for told in (machine, slim(craft, machine)):
                word, states = checked(craft, wishes, told)
                self.assertEqual(word, "holds")
                self.assertIs(is_holding(craft, wishes, told, states), True)
                self.assertIsNone(parting(craft, wishes, told, machine))
                code, _ = compiled(table_program(craft, told))
                self.assertIs(steers(craft, told, code), True)
                self.assertEqual(checked_code(craft, wishes, code)[0], "holds")
            many += 1
        self.assertGreater(many, 30)

    def test_each_machine_of_a_barred_craft_fails(self):
        many = 0
        for chance, play, _ in some_games(1202, 120):
            craft, wishes = play.craft, play.wishes
            rank = least_rank(craft, wishes)
            if rank is None:
                continue
            for share in (1.0, 1.0, 0.9):
                machine = answering(chance, play.slow, chance.randint(1, 4), share)
                found = checked(craft, wishes, machine)
                self.assertNotEqual(found[0], "holds")
                self.assertIs(is_failing(craft, wishes, machine, found), True)
                self.assertLessEqual(len(found[1][1]), rank + 1)
                if share == 1.0:
                    self.assertEqual(found[0], "breaks")
                    code, _ = compiled(table_program(craft, machine))
                    found = checked_code(craft, wishes, code)
                    self.assertEqual(found[0], "breaks")
                    self.assertIs(is_failing_code(craft, wishes, code, found), True)
                    self.assertLessEqual(len(found[1][1]), rank + 1)
            many += 1
        self.assertGreater(many, 30)

    def test_machines_that_hold_are_there_just_with_a_choice(self):
        told = {}
        for chance, play, _ in some_games(1203, 60):
            word = steady(play.craft, play.wishes)[0]
            for _ in range(6):
                found = checked(play.craft, play.wishes, answering(chance, play.slow, chance.randint(1, 3)))[0]
                self.assertTrue(word == "made" or found == "breaks")
                told[word, found] = told.get((word, found), 0) + 1
        self.assertGreater(min(told["made", "holds"], told["barred", "breaks"]), 30)

    def test_the_last_fact(self):
        """Code that is apart and steers as a machine holds just if the machine does."""
        told = {}
        for chance, play, _ in some_games(1204, 90):
            craft, wishes = play.craft, play.wishes
            machine = answering(chance, play.slow, chance.randint(1, 3))
            code, _ = compiled(table_program(craft, machine))
            other = bent(chance, craft, machine)
            for one in (machine, other):
                if astray(craft, one, code) is None and checked(craft, wishes, one)[0] != "no answer":
                    word = checked_code(craft, wishes, code)[0]
                    self.assertEqual(word, checked(craft, wishes, one)[0])
                    told[word] = told.get(word, 0) + 1
        self.assertGreater(min(told["holds"], told["breaks"]), 20)


class CoarseChoicesTest(unittest.TestCase):
    def test_the_checker_lets_their_machines(self):
        many = 0
        chance = random.Random(1205)
        for k in (1, 2, 3):
            for play, _ in plays(chance, 40, most_places=8):
                craft, wishes = play.craft, play.wishes
                choice = steady_by(craft, wishes, k)
                if choice is not None:
                    machine = machine_by(craft, wishes, k, choice)
                    for told in (machine, slim(craft, machine)):
                        self.assertEqual(checked(craft, wishes, told)[0], "holds")
                    many += 1
        self.assertGreater(many, 40)


class EasierCraftsTest(unittest.TestCase):
    """What holds for a craft holds for one that is easier in what the world may do, and for easier wishes."""

    def easier(self, chance, craft, wishes):
        plant, (low, high, told) = craft.plant, craft.lengths
        pushes = tuple((push, push) for push in [chance.randint(*span) for span in plant.pushes])
        calm = Plant(plant.form, plant.way, plant.box, plant.modes, pushes)
        exact = tuple((formula, 0, 0) for formula, _, _ in craft.sensors)
        shorter = (low, chance.randint(low, high), told)
        found = [(calm, craft.levers, craft.sensors, craft.lengths, craft.starts),
                 (plant, craft.levers, exact, craft.lengths, craft.starts),
                 (plant, craft.levers, craft.sensors, shorter, craft.starts),
                 (plant, craft.levers, craft.sensors, craft.lengths, craft.starts[-1:])]
        if len(craft.levers[0]) == 1 and (9,) not in craft.levers:
            found.append((plant, craft.levers + ((9,),), craft.sensors, craft.lengths, craft.starts))
        crafts = []
        for one in found:
            try:
                crafts.append(Craft(*one))
            except BadCraft:
                pass
        eased = tuple(self.eased(wish) for wish in wishes)
        return [(one, wishes) for one in crafts] + [(craft, wishes[1:]), (craft, wishes[:-1]), (craft, eased)]

    def eased(self, wish):
        if wish[0] in ("within", "answered", "again"):
            wish = wish[:-1] + (min(30, wish[-1] + 1),)
        return wish if wish[0] != "never" else ("never", wish[1][1:])

    def test_machines_hold_there_too(self):
        many = 0
        for chance, play, _ in some_games(1206, 80):
            craft, wishes = play.craft, play.wishes
            word, choice = steady(craft, wishes)
            if word == "barred":
                continue
            machine = machine_of(craft, wishes, choice)
            for other, others in self.easier(chance, craft, wishes):
                if len(wishes) == len(others):
                    self.assertTrue(all(harder(one, easy) for one, easy in zip(wishes, others)))
                # A machine of the craft has its readings in the form of the easier one, but for lengths beyond.
                told = tuple({reading: point[reading] for reading in point
                              if not other.lengths[2] or reading[-1] <= other.lengths[1]} for point in machine)
                self.assertEqual(checked(other, others, told)[0], "holds")
                many += 1
        self.assertGreater(many, 200)


class WindowTest(unittest.TestCase):
    """What a device chooses is a function of its readings, whenever knocks come."""

    def test_of_compiled_code(self):
        many = 0
        for chance, play, _ in some_games(1207, 40):
            craft = play.craft
            machine = answering(chance, play.slow, chance.randint(1, 3))
            table = table_program(craft, machine)
            k = ("name", "k")
            program = Program(table.shape, table.form, table.kept, ("k",), table.forms, table.bodies,
                              (("set", "k", ("plus", k, ("number", 1))),))
            code, _ = compiled(program)
            self.assertTrue(is_apart(code))
            quiet = knocked = ((0,) * code.cells[0], (0,), ())
            readings = every_reading(play.slow)
            for _ in range(12):
                reading = chance.choice(readings)
                knocks = tuple(sorted(chance.choices(range(12), k=chance.choice((0, 1, 2, 5)))))
                one, other = ran(code, quiet, reading, ()), ran(code, knocked, reading, knocks)
                self.assertEqual(one[:2] + one[3:], other[:2] + other[3:])
                quiet, knocked = one[2], other[2]
                self.assertEqual((quiet[0], quiet[2]), (knocked[0], knocked[2]))
                many += knocked[1] != quiet[1]
        self.assertGreater(many, 100)


if __name__ == "__main__":
    unittest.main()
