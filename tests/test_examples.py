"""The examples at the end of the document, as far as they have landed, and the general rules."""

import copy
import importlib
import inspect
import unittest

from steadycraft import crafts, formulas, knowing, plants, spans, wishes as wishing
from steadycraft.crafts import Craft, after, box_after
from steadycraft.dyads import Format, above, below, plus, rounded
from steadycraft.formulas import enclosed, run, undone
from steadycraft.knowing import first, led, read
from steadycraft.plants import Plant, tick
from steadycraft.spans import times_in
from steadycraft.wishes import breaks_at, broken

f = Format(3, -2, 2)
third = ("over", ("in", 0), ("number", 3))
plant = Plant(Format(6, -4, 4), "near", ((0, 4),), ((None, (("plus", ("in", 0), ("in", 1)),)),), ((0, 1),))
craft = Craft(plant, ((0,), (-1,)), ((("in", 0), 0, 0),), (1, 1, False), ((2,),))
wishes = (("never", (((4, 4),),)),)

INTERFACE = {
    "dyads": ["Format(bits, low, high)", "has(format, thing)", "worth(dyad)", "whole(dyad)", "dyad_of(format, value)",
              "above(format, value)", "below(format, value)", "rounded(format, value, way)",
              "plus(format, way, one, other)", "minus(format, way, one, other)", "times(format, way, one, other)",
              "over(format, way, one, other)"],
    "spans": ["is_interval(format, thing)", "hull(format, values)", "met(format, one, other)",
              "joined(format, one, other)", "plus_in(format, one, other)", "minus_in(format, one, other)",
              "times_in(format, one, other)", "over_in(format, one, other)", "least_in(format, one, other)",
              "greatest_in(format, one, other)", "whole_in(interval)"],
    "formulas": ["is_formula(inputs, thing)", "run(format, way, formula, row)", "whole_of(format, way, formula, row)",
                 "undone(format, way, formula, box, goal)", "enclosed(format, formula, box)",
                 "is_enclosure(format, formula, box, thing)"],
    "plants": ["is_in(area, place)", "Plant(form, way, box, modes, pushes)", "tick(plant, place, row, push)",
               "mode_at(plant, place)"],
    "crafts": ["Craft(plant, levers, sensors, lengths, starts)", "after(craft, lot, row)", "ticks(craft, lot, row)",
               "box_after(craft, box, row)", "framed(craft, box, row)"],
    "runs": ["is_run(craft, thing)", "places_of(craft, run)"],
    "knowing": ["readings_at(craft, place, lacks, length)", "first(craft, wishes)", "broken_first(craft, wishes)",
                "is_knowledge(craft, wishes, thing)", "readings(craft, knowledge)", "read(craft, knowledge, reading)",
                "led(craft, wishes, knowledge, row)", "break_in(craft, wishes, knowledge)",
                "is_break_in(craft, wishes, knowledge, thing)"],
    "wishes": ["are_wishes(plant, thing)", "broken(wishes, places)", "begun(wishes, place)",
               "counted(wishes, counts, place)", "harder(one, other)", "breaks_at(craft, wishes, run)",
               "is_breaking(craft, wishes, thing)"],
}


class ExamplesTest(unittest.TestCase):
    def test_e01(self):
        self.assertEqual(above(f, (1, 3)), (1, -1))
        self.assertEqual(below(f, (1, 3)), (1, -2))
        self.assertEqual(rounded(f, (1, 3), "near"), (1, -2))

    def test_e02(self):
        self.assertEqual(rounded(f, (9, 1), "near"), (1, 3))
        self.assertEqual(rounded(f, (9, 1), "far"), (5, 1))
        self.assertEqual(plus(f, "up", (7, 0), (3, -2)), (1, 3))

    def test_e03(self):
        self.assertEqual(times_in(f, ((-1, 0), (1, 1)), ((3, -1), (3, 0))), ((-3, 0), (3, 1)))

    def test_e04(self):
        self.assertEqual(run(f, "near", third, (2,)), (3, -2))
        self.assertEqual(undone(f, "near", third, ((0, 5),), 1), [(2,), (3,), (4,)])

    def test_e05(self):
        told = (((1, 0), (1, 1)), ((3, 0), (3, 0)), ((1, -2), (3, -2)))
        self.assertEqual(enclosed(f, third, ((1, 2),)), told)

    def test_e06(self):
        self.assertEqual(tick(plant, (4,), (0,), (1,)), (4,))
        self.assertEqual(after(craft, ((2,),), 1), ((1,), (2,)))
        self.assertEqual(box_after(craft, ((2, 3),), 0), ((2, 4),))

    def test_e07(self):
        known = first(craft, wishes)
        self.assertEqual(known, (0, (0,), None, (((2,), (0,)),)))
        behind = led(craft, wishes, read(craft, known, (2,)), 1)
        self.assertEqual(behind, ((1, (0,), None, (((2,), (0,)), ((3,), (0,)))),))

    def test_e10(self):
        self.assertEqual(broken((("within", (((0, 0),),), 2),), [(2,), (1,), (1,)]), (2, 0))
        self.assertEqual(broken((("again", (((0, 0),),), 1),), [(0,), (1,), (1,)]), (2, 0))

    def test_e12(self):
        alone = Craft(plant, ((0,),), ((("in", 0), 0, 0),), (1, 1, False), ((2,),))
        told = ((2,), (((2,), 0, ((1,),)), ((3,), 0, ((1,),))))
        self.assertEqual(breaks_at(alone, wishes, told), (1, 1, 0))


class GeneralTest(unittest.TestCase):
    def test_interface_is_defined_where_it_is_listed(self):
        for name, listed in INTERFACE.items():
            module = importlib.import_module(f"steadycraft.{name}")
            for line in listed:
                word, _, told = line.partition("(")
                thing = getattr(module, word)
                self.assertEqual(thing.__module__, module.__name__, line)
                self.assertEqual(list(inspect.signature(thing).parameters), told.rstrip(")").split(", "), line)
                if inspect.isclass(thing):
                    self.assertTrue({"__init__", "__eq__"} <= set(vars(thing)))

    def test_nothing_passed_is_changed(self):
        values, places = [(3, 1), (1, 3), (2, 1)], [(2,), (4,), (1,)]
        spans.hull(f, values)
        broken(wishes, places)
        self.assertEqual((values, places), ([(3, 1), (1, 3), (2, 1)], [(2,), (4,), (1,)]))
        before = copy.deepcopy(vars(craft))
        for _ in range(2):
            after(craft, ((2,),), 0)
            crafts.ticks(craft, ((0,), (2,)), 1)
            crafts.framed(craft, ((0, 2),), 1)
            knowing.break_in(craft, wishes, first(craft, wishes))
            led(craft, wishes, first(craft, wishes), 0)
            wishing.is_breaking(craft, wishes, ((2,), (((2,), None, ()),)))
        self.assertEqual(vars(craft), before)

    def test_objects_made_anew_are_equal(self):
        self.assertEqual(copy.deepcopy(craft), craft)
        self.assertEqual(copy.deepcopy(plant), plant)
        self.assertEqual(copy.deepcopy(f), f)
        for thing in (craft, plant, f):
            for other in (craft, plant, f):
                self.assertIs(thing == other, thing is other)
                self.assertIs(thing != other, thing is not other)

    def test_flags_are_flags(self):
        told = [formulas.is_formula(1, third), spans.is_interval(f, ((0, 0), (1, 0))), plants.is_in((), (1,)),
                knowing.is_knowledge(craft, wishes, first(craft, wishes)), wishing.are_wishes(plant, wishes),
                wishing.harder(wishes[0], wishes[0]), wishing.is_breaking(craft, wishes, None)]
        self.assertEqual([type(flag) for flag in told], [bool] * len(told))


if __name__ == "__main__":
    unittest.main()
