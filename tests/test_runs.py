"""Promise 2.5: runs."""

import random
import unittest

from steadycraft.crafts import Craft
from steadycraft.errors import NoRun
from steadycraft.runs import is_run, places_of
from tests import support

X = ("in", 0)


def is_integer(thing):
    return type(thing) is int


def judged(slow, thing):
    """Whether a thing is a run, by the document's words; the places of its periods if it is."""
    craft = slow.craft
    low, high, told = craft.lengths
    if type(thing) is not tuple or len(thing) != 2:
        return None
    start, periods = thing
    if type(start) is not tuple or not all(map(is_integer, start)) or start not in craft.starts:
        return None
    if type(periods) is not tuple or not periods:
        return None
    place, row, lacks, length, found = start, 0, (0,) * len(craft.sensors), 0, []
    for at, period in enumerate(periods):
        last = at == len(periods) - 1
        if type(period) is not tuple or len(period) != 3:
            return None
        reading, chosen, pushes = period
        if type(reading) is not tuple or any(type(item) not in (int, type(None)) for item in reading):
            return None
        if reading not in slow.readings(place, lacks, length):
            return None
        if not (chosen is None and last) and not (is_integer(chosen) and 0 <= chosen < len(craft.levers)):
            return None
        if type(pushes) is not tuple or not (0 if last else low) <= len(pushes) <= high:
            return None
        places = [place]
        for push in pushes:
            if type(push) is not tuple or not all(map(is_integer, push)) or push not in slow.pushes:
                return None
            place = slow.goals[place, row, push]
            places.append(place)
        found.append(tuple(places))
        lacks, length, row = support.lacks_behind(lacks, reading), len(pushes), chosen
    return tuple(found)


class RunTest(unittest.TestCase):
    def check(self, slow, thing):
        right = judged(slow, thing)
        self.assertIs(is_run(slow.craft, thing), right is not None)
        if right is None:
            with self.assertRaises(NoRun):
                places_of(slow.craft, thing)
        else:
            self.assertEqual(places_of(slow.craft, thing), right)
        return right is not None

    def test_runs_and_such_with_one_thing_otherwise(self):
        chance = random.Random(51)
        told = {True: 0, False: 0}
        for at in range(80):
            slow = support.Slow(support.some_craft(chance))
            for _ in range(5):
                run = support.some_run(chance, slow, chance.randint(1, 4))
                self.assertTrue(self.check(slow, run))
                for thing in support.changed(run, at, 25):
                    told[self.check(slow, thing)] += 1
        self.assertGreater(min(told.values()), 300)

    def test_judges_any_object(self):
        chance = random.Random(52)
        slow = support.Slow(support.some_craft(chance))
        run = support.some_run(chance, slow, 3)
        for thing in support.junk():
            self.assertIs(is_run(slow.craft, thing), False)
            with self.assertRaises(NoRun):
                places_of(slow.craft, thing)
            for path in support.paths(run):
                self.check(slow, support.replaced(run, path, thing))

    def test_the_row_acts_that_was_chosen_ahead(self):
        craft = support.small_craft()
        periods = (((2,), 1, ((1,),)), ((3,), 0, ((0,),)), ((2,), 0, ((0,),)), ((2,), 1, ()))
        self.assertEqual(places_of(craft, ((2,), periods)), (((2,), (3,)), ((3,), (2,)), ((2,), (2,)), ((2,),)))
        # Row 1, chosen in the first period, acts in the second one: no push leads from 3 to 4 then.
        other = (((2,), 1, ((1,),)), ((3,), 0, ((1,),)), ((4,), 0, ()))
        self.assertIs(is_run(craft, ((2,), other)), False)

    def test_last_period(self):
        craft = Craft(support.small_plant(), ((0,), (-1,)), ((X, 0, 0),), (2, 3, False), ((0,), (2,)))
        push = ((0,),)
        for many in range(5):
            self.assertIs(is_run(craft, ((2,), (((2,), None, push * many),))), many <= 3)
            self.assertIs(is_run(craft, ((2,), (((2,), 1, push * many),))), many <= 3)
            later = (((2,), 0, push * many), ((2,), None, ()))
            self.assertIs(is_run(craft, ((2,), later)), 2 <= many <= 3)
        for row in (None, 2, -1, True, (0,)):
            self.assertIs(is_run(craft, ((2,), (((2,), row, push * 2), ((2,), 0, ())))), False)
        self.assertIs(is_run(craft, ((1,), (((1,), None, ()),))), False)
        self.assertIs(is_run(craft, ((0,), (((0,), None, ()),))), True)
        self.assertEqual(places_of(craft, ((0,), (((0,), None, ()),))), (((0,),),))

    def test_told_lengths(self):
        craft = Craft(support.small_plant(), ((0,),), ((X, 0, 0),), (1, 3, True), ((2,),))
        for many in (1, 2, 3):
            for told in range(-1, 5):
                periods = (((2, 0), 0, ((0,),) * many), ((2, told), 0, ()))
                self.assertIs(is_run(craft, ((2,), periods)), told == many)
        for told in (1, 3, None, False):
            self.assertIs(is_run(craft, ((2,), (((2, told), 0, ()),))), False)
        self.assertIs(is_run(craft, ((2,), (((2,), 0, ()),))), False)

    def test_lacks_in_a_row(self):
        sensors = ((X, 1, 2), (("number", 7), 0, 0))
        craft = Craft(support.small_plant(), ((0,),), sensors, (1, 1, False), ((2,),))
        for counts in [(None, None, 2), (2, None, None), (None, 1, None, None, 3), (3, 3, 3)]:
            periods = tuple(((one, 7), 0, ((0,),)) for one in counts)
            self.assertIs(is_run(craft, ((2,), periods)), True)
        for counts in [(None, None, None), (2, None, None, None), (4,), (0,), (None, 1, 4)]:
            periods = tuple(((one, 7), 0, ((0,),)) for one in counts)
            self.assertIs(is_run(craft, ((2,), periods)), False)
        self.assertIs(is_run(craft, ((2,), (((2, None), 0, ()),))), False)

    def test_long_runs(self):
        craft = support.small_craft()
        periods = (((2,), 0, ((0,),)),) * 5000
        self.assertEqual(places_of(craft, ((2,), periods)), (((2,), (2,)),) * 5000)


if __name__ == "__main__":
    unittest.main()
