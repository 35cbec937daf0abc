"""The examples at the end of the document, as far as they have landed, and the general rules."""

import copy
import importlib
import inspect
import unittest

from steadycraft import (coarse, codes, crafts, formulas, games, knowing, machines, plants, programs, running, slimming,
                         spans, stories, wishes as wishing)
from steadycraft.crafts import Craft, after, box_after
from steadycraft.dyads import Format, above, below, plus, rounded
from steadycraft.formulas import enclosed, run, undone
from steadycraft.knowing import first, led, read
from steadycraft.plants import Plant, tick
from steadycraft.boxing import boxes
from steadycraft.games import beaten, least_rank, steady
from steadycraft.spans import times_in
from steadycraft.stories import known, run_to
from steadycraft.wishes import breaks_at, broken

f = Format(3, -2, 2)
third = ("over", ("in", 0), ("number", 3))
plant = Plant(Format(6, -4, 4), "near", ((0, 4),), ((None, (("plus", ("in", 0), ("in", 1)),)),), ((0, 1),))
craft = Craft(plant, ((0,), (-1,)), ((("in", 0), 0, 0),), (1, 1, False), ((2,),))
wishes = (("never", (((4, 4),),)),)

INTERFACE = {
    "dyads": ["Format(bits, low, high)", "has(format, thing)", "worth(dyad)", "whole(dyad)", "dyad_of(format, value)",
              "above(format, value)", "below(format, value)", "rounded(format, value, way)",
              "plus(format, way, one, other)", "minus(format, way, one, other)", "times(format, way, one, other)",
              "over(format, way, one, other)"],
    "spans": ["is_interval(format, thing)", "hull(format, values)", "met(format, one, other)",
              "joined(format, one, other)", "plus_in(format, one, other)", "minus_in(format, one, other)",
              "times_in(format, one, other)", "over_in(format, one, other)", "least_in(format, one, other)",
              "greatest_in(format, one, other)", "whole_in(interval)"],
    "formulas": ["is_formula(inputs, thing)", "run(format, way, formula, row)", "whole_of(format, way, formula, row)",
                 "undone(format, way, formula, box, goal)", "enclosed(format, formula, box)",
                 "is_enclosure(format, formula, box, thing)"],
    "plants": ["is_in(area, place)", "Plant(form, way, box, modes, pushes)", "tick(plant, place, row, push)",
               "mode_at(plant, place)"],
    "crafts": ["Craft(plant, levers, sensors, lengths, starts)", "after(craft, lot, row)", "ticks(craft, lot, row)",
               "box_after(craft, box, row)", "framed(craft, box, row)"],
    "runs": ["is_run(craft, thing)", "places_of(craft, run)"],
    "knowing": ["readings_at(craft, place, lacks, length)", "first(craft, wishes)", "broken_first(craft, wishes)",
                "is_knowledge(craft, wishes, thing)", "readings(craft, knowledge)", "read(craft, knowledge, reading)",
                "led(craft, wishes, knowledge, row)", "break_in(craft, wishes, knowledge)",
                "is_break_in(craft, wishes, knowledge, thing)"],
    "stories": ["known(craft, wishes, story)", "run_to(craft, wishes, story, standing)",
                "is_run_to(craft, wishes, story, standing, thing)"],
    "boxing": ["boxes(lot, many)", "boxed(craft, boxes)"],
    "nodes": ["roots(craft, wishes)", "children(craft, wishes, node, row)"],
    "games": ["is_choice(craft, wishes, thing)", "is_spoiler(craft, wishes, thing)",
              "rank_of(craft, wishes, spoiler)", "steady(craft, wishes)", "least_rank(craft, wishes)",
              "beaten(craft, wishes, spoiler, telling)", "longest(craft, wishes)", "least_k(craft, wishes, index)",
              "surest(craft, wishes, node)", "lasts(craft, wishes, many)"],
    "machines": ["is_machine(craft, thing)", "rows_of(craft, machine, readings)",
                 "machine_of(craft, wishes, choice)"],
    "slimming": ["joined(craft, machine, one, other)", "slim(craft, machine)", "clash(craft, machine, one, other)",
                 "does_work(craft, machine, thing)", "is_slim(craft, machine, thing)"],
    "coarse": ["steady_by(craft, wishes, k)", "is_choice_by(craft, wishes, k, thing)", "least_boxes(craft, wishes)",
               "machine_by(craft, wishes, k, choice)"],
    "programs": ["Program(shape, form, kept, knocks, forms, bodies, handler)", "first_stand(program)",
                 "walked(program, stand, reading)", "handled(program, stand)"],
    "codes": ["Code(shape, form, cells, forms, rows, handler)"],
    "running": ["ran(code, stand, reading, knocks)", "is_apart(code)"],
    "wishes": ["are_wishes(plant, thing)", "broken(wishes, places)", "begun(wishes, place)",
               "counted(wishes, counts, place)", "harder(one, other)", "breaks_at(craft, wishes, run)",
               "is_breaking(craft, wishes, thing)"],
}


class ExamplesTest(unittest.TestCase):
    def test_e01(self):
        self.assertEqual(above(f, (1, 3)), (1, -1))
        self.assertEqual(below(f, (1, 3)), (1, -2))
        self.assertEqual(rounded(f, (1, 3), "near"), (1, -2))

    def test_e02(self):
        self.assertEqual(rounded(f, (9, 1), "near"), (1, 3))
        self.assertEqual(rounded(f, (9, 1), "far"), (5, 1))
        self.assertEqual(plus(f, "up", (7, 0), (3, -2)), (1, 3))

    def test_e03(self):
        self.assertEqual(times_in(f, ((-1, 0), (1, 1)), ((3, -1), (3, 0))), ((-3, 0), (3, 1)))

    def test_e04(self):
        self.assertEqual(run(f, "near", third, (2,)), (3, -2))
        self.assertEqual(undone(f, "near", third, ((0, 5),), 1), [(2,), (3,), (4,)])

    def test_e05(self):
        told = (((1, 0), (1, 1)), ((3, 0), (3, 0)), ((1, -2), (3, -2)))
        self.assertEqual(enclosed(f, third, ((1, 2),)), told)

    def test_e06(self):
        self.assertEqual(tick(plant, (4,), (0,), (1,)), (4,))
        self.assertEqual(after(craft, ((2,),), 1), ((1,), (2,)))
        self.assertEqual(box_after(craft, ((2, 3),), 0), ((2, 4),))

    def test_e07(self):
        known = first(craft, wishes)
        self.assertEqual(known, (0, (0,), None, (((2,), (0,)),)))
        behind = led(craft, wishes, read(craft, known, (2,)), 1)
        self.assertEqual(behind, ((1, (0,), None, (((2,), (0,)), ((3,), (0,)))),))

    def test_e08(self):
        story = (((2,), 1), ((3,), None))
        self.assertEqual(known(craft, wishes, story), (1, (0,), None, (((3,), (0,)),)))
        self.assertEqual(run_to(craft, wishes, story, ((3,), (0,))), ((2,), (((2,), 1, ((1,),)), ((3,), None, ()))))

    def test_e09(self):
        self.assertEqual(boxes(((0,), (1,), (5,)), 2), (((0, 1),), ((5, 5),)))

    def test_e10(self):
        self.assertEqual(broken((("within", (((0, 0),),), 2),), [(2,), (1,), (1,)]), (2, 0))
        self.assertEqual(broken((("again", (((0, 0),),), 1),), [(0,), (1,), (1,)]), (2, 0))

    def test_e11(self):
        self.assertEqual(steady(craft, wishes)[0], "made")
        self.assertIsNone(least_rank(craft, wishes))
        at_three = Craft(plant, ((0,), (-1,)), ((("in", 0), 0, 0),), (1, 1, False), ((3,),))
        self.assertEqual(least_rank(at_three, wishes), 0)

    def test_e12(self):
        alone = Craft(plant, ((0,),), ((("in", 0), 0, 0),), (1, 1, False), ((2,),))
        told = ((2,), (((2,), 0, ((1,),)), ((3,), 0, ((1,),))))
        self.assertEqual(least_rank(alone, wishes), 1)
        self.assertEqual(beaten(alone, wishes, steady(alone, wishes)[1], lambda readings: 0), told)
        self.assertEqual(breaks_at(alone, wishes, told), (1, 1, 0))


class GeneralTest(unittest.TestCase):
    def test_interface_is_defined_where_it_is_listed(self):
        for name, listed in INTERFACE.items():
            module = importlib.import_module(f"steadycraft.{name}")
            for line in listed:
                word, _, told = line.partition("(")
                thing = getattr(module, word)
                self.assertEqual(thing.__module__, module.__name__, line)
                self.assertEqual(list(inspect.signature(thing).parameters), told.rstrip(")").split(", "), line)
                if inspect.isclass(thing):
                    self.assertTrue({"__init__", "__eq__"} <= set(vars(thing)))

    def test_nothing_passed_is_changed(self):
        values, places = [(3, 1), (1, 3), (2, 1)], [(2,), (4,), (1,)]
        spans.hull(f, values)
        broken(wishes, places)
        self.assertEqual((values, places), ([(3, 1), (1, 3), (2, 1)], [(2,), (4,), (1,)]))
        before = copy.deepcopy(vars(craft))
        for _ in range(2):
            after(craft, ((2,),), 0)
            crafts.ticks(craft, ((0,), (2,)), 1)
            crafts.framed(craft, ((0, 2),), 1)
            knowing.break_in(craft, wishes, first(craft, wishes))
            led(craft, wishes, first(craft, wishes), 0)
            wishing.is_breaking(craft, wishes, ((2,), (((2,), None, ()),)))
            games.longest(craft, wishes)
            coarse.least_boxes(craft, wishes)
            stories.run_to(craft, wishes, (((2,), 1), ((3,), None)), ((3,), (0,)))
        self.assertEqual(vars(craft), before)

    def test_dicts_that_are_passed_are_not_changed(self):
        choice, alone = steady(craft, wishes)[1], Craft(plant, ((0,),), ((("in", 0), 0, 0),), (1, 1, False), ((2,),))
        spoiler, before = steady(alone, wishes)[1], dict(choice)
        ranked = dict(spoiler[1])
        machine = machines.machine_of(craft, wishes, choice)
        points = tuple(dict(point) for point in machine)
        for _ in range(2):
            games.is_choice(craft, wishes, choice)
            coarse.is_choice_by(craft, wishes, 2, choice)
            coarse.machine_by(craft, wishes, 2, choice)
            games.is_spoiler(alone, wishes, spoiler)
            beaten(alone, wishes, spoiler, lambda readings: 0)
            machines.rows_of(craft, machine, [(2,), (3,)])
            slimming.slim(craft, machine)
            slimming.joined(craft, machine, 0, 1)
            slimming.clash(craft, machine, 0, 1)
            slimming.is_slim(craft, machine, machine)
        self.assertEqual((choice, spoiler[1], machine), (before, ranked, points))

    def test_programs_and_code_do_not_change(self):
        program = programs.Program((1, False, 2), f, ("a",), ("k",), ("x",), ((("set", "a", ("count", 0)),),),
                                   (("set", "k", ("number", 1)),))
        code = codes.Code((1, False, 2), f, (1, 1, 1), (1, 1), (("count", 0, 0), ("store", 0, 0), ("end",)), 2)
        stand = ((3,), (4,), ((1, 0),))
        before = copy.deepcopy((vars(program), vars(code), stand))
        for _ in range(2):
            self.assertEqual(programs.walked(program, stand, (7,)), ("done", None, ((7,), (4,), ((1, 0),))))
            self.assertEqual(programs.handled(program, stand), ((3,), (1,), ((1, 0),)))
            self.assertEqual(running.ran(code, stand, (7,), (0, 1)), ("done", None, ((7,), (4,), ((1, 0),)), 5, 0))
            self.assertIs(running.is_apart(code), True)
        self.assertEqual((vars(program), vars(code), stand), before)
        for one in (program, code, craft, plant, f):
            for other in (program, code, craft, plant, f):
                self.assertIs(one == other, one is other)
                self.assertIs(one != other, one is not other)

    def test_objects_made_anew_are_equal(self):
        self.assertEqual(copy.deepcopy(craft), craft)
        self.assertEqual(copy.deepcopy(plant), plant)
        self.assertEqual(copy.deepcopy(f), f)
        for thing in (craft, plant, f):
            for other in (craft, plant, f):
                self.assertIs(thing == other, thing is other)
                self.assertIs(thing != other, thing is not other)

    def test_flags_are_flags(self):
        told = [formulas.is_formula(1, third), spans.is_interval(f, ((0, 0), (1, 0))), plants.is_in((), (1,)),
                knowing.is_knowledge(craft, wishes, first(craft, wishes)), wishing.are_wishes(plant, wishes),
                games.is_choice(craft, wishes, {}), games.is_spoiler(craft, wishes, ("start", (4,))),
                games.lasts(craft, wishes, 3), coarse.is_choice_by(craft, wishes, 1, None),
                machines.is_machine(craft, ({},)), slimming.does_work(craft, ({},), ({},)),
                slimming.is_slim(craft, ({},), ({},)), stories.is_run_to(craft, wishes, (((2,), None),), ((2,), (0,)), 1),
                wishing.harder(wishes[0], wishes[0]), wishing.is_breaking(craft, wishes, None)]
        self.assertEqual([type(flag) for flag in told], [bool] * len(told))


if __name__ == "__main__":
    unittest.main()
