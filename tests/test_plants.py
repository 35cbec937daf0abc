"""Promises 2.1 and 2.2: boxes, areas, plants, ticks."""

import random
import unittest

from steadycraft.dyads import Format
from steadycraft.errors import BadPlant, Beyond, NoPlace, NoPush, NoRow, Nought
from steadycraft.plants import Plant, is_in, mode_at, tick
from tests import support

F = Format(6, -4, 4)
STAY = (("in", 0),)
LAST = (None, STAY)
BOX = ((0, 4),)


def parts_with(**told):
    found = {"form": F, "way": "near", "box": BOX, "modes": (LAST,), "pushes": ((0, 1),)}
    found.update(told)
    return [found[part] for part in ("form", "way", "box", "modes", "pushes")]


def plant_with(**told):
    return Plant(*parts_with(**told))


class PlantTest(unittest.TestCase):
    def wrong(self, part, **told):
        with self.assertRaises(BadPlant) as caught:
            plant_with(**told)
        self.assertEqual(caught.exception.part, part, told)

    def test_form_and_way(self):
        for thing in [None, (6, -4, 4), Format] + [one for one in support.junk() if not isinstance(one, Format)]:
            self.wrong("form", form=thing)
        for thing in [None, "none", b"up", ["up"], ("up",)] + [one for one in support.junk() if one != "up"]:
            self.wrong("way", way=thing)
        for way in support.WAYS:
            self.assertEqual(plant_with(way=way).way, way)

    def test_box(self):
        for box in [((0, 399),), ((0, 19), (1, 20)), ((-1000, -601),), ((0, 3), (0, 9), (0, 9)), ((1000, 1000),),
                    ((-1000, -1000),)]:
            stay = tuple(("in", axis) for axis in range(len(box)))
            plant = Plant(F, "up", box, ((None, stay),), ((0, 0),) * len(box))
            self.assertEqual(plant.box, box)
        odd = [(), ((0, 400),), ((0, 20), (1, 20)), ((-1001, -1000),), ((1000, 1001),), ((1, 0),), ((0, 1),) * 4, [(0, 1)],
               ([0, 1],), ((0, True),), ((False, 1),), ((0, 1, 2),), ((0,),), ((0, None),), (None,), (0, 1)]
        for box in odd + [thing for thing in support.junk() if thing != ((1, 2),)]:
            self.wrong("box", box=box)

    def test_modes(self):
        area = (((0, 1),),)
        for modes in [(LAST,), ((area, STAY), LAST), (((), STAY), LAST), ((area, STAY),) * 3 + (LAST,),
                      ((((0, 0),), STAY), LAST)[1:], ((((((0, 0),),) * 6), STAY), LAST),
                      ((None, (("plus", ("in", 1), ("in", 2)),)),)]:
            self.assertEqual(plant_with(modes=modes).modes, modes)
        odd = [(), ((area, STAY),), (LAST, LAST), ((area, STAY),) * 4 + (LAST,), [LAST], (list(LAST),), (None,),
               ((None, STAY, 1),), ((None,),), ((None, ()),), ((None, STAY + STAY),), ((None, list(STAY)),),
               ((None, (("in", 3),)),), ((None, ("in", 0)),), (((((0, 0),),) * 7, STAY), LAST),
               ((((0, 1),), STAY), LAST), ((([(0, 1)],), STAY), LAST), (((((0, 1), (0, 1)),), STAY), LAST),
               (((((1, 0),),), STAY), LAST), (((((0, 1001),),), STAY), LAST), (([((0, 1),)], STAY), LAST),
               ((((),), STAY), LAST), ((0, STAY), LAST), ((None, STAY), (area, STAY))]
        for modes in odd + support.junk():
            self.wrong("modes", modes=modes)
        for thing in support.junk():
            self.wrong("modes", modes=(thing, LAST))
            self.wrong("modes", modes=((area, thing), LAST))
            self.wrong("modes", modes=((area, (thing,)), LAST))
            if thing != ():
                self.wrong("modes", modes=((thing, STAY), LAST))
            if thing != ((1, 2),):
                self.wrong("modes", modes=((area + (thing,), STAY), LAST))

    def test_pushes(self):
        for pushes in [((-20, 20),), ((0, 0),), ((20, 20),), ((-20, -20),)]:
            self.assertEqual(plant_with(pushes=pushes).pushes, pushes)
        box, stay = ((0, 1), (0, 1)), (None, (("in", 0), ("in", 1)))
        self.assertEqual(plant_with(box=box, modes=(stay,), pushes=((-4, 4), (0, 8))).pushes, ((-4, 4), (0, 8)))
        for pushes in [((-4, 4), (0, 9)), ((-20, 20), (0, 1)), ((0, 1),), ((0, 1),) * 3]:
            self.wrong("pushes", box=box, modes=(stay,), pushes=pushes)
        odd = [(), ((-21, 0),), ((0, 21),), ((1, 0),), ((0, 1), (0, 1)), [(0, 1)], ((0, True),), ((0, 1, 2),), (0, 1)]
        for pushes in odd + [thing for thing in support.junk() if thing != ((1, 2),)]:
            self.wrong("pushes", pushes=pushes)

    def test_first_wrong_part(self):
        parts = ["form", "way", "box", "modes", "pushes"]
        for at, part in enumerate(parts):
            self.wrong(part, **{name: 0 for name in parts[at:]})

    def test_equal(self):
        other_mode = (None, (("in", 1),))
        self.assertTrue(plant_with() == plant_with(form=Format(6, -4, 4)))
        self.assertFalse(plant_with() != plant_with())
        for told in [{"form": Format(6, -4, 5)}, {"way": "up"}, {"box": ((0, 5),)}, {"modes": (other_mode,)},
                     {"pushes": ((0, 2),)}]:
            self.assertFalse(plant_with() == plant_with(**told))
            self.assertTrue(plant_with() != plant_with(**told))
        for thing in support.junk():
            self.assertFalse(plant_with() == thing)
            self.assertTrue(plant_with() != thing)


class IsInTest(unittest.TestCase):
    def test_by_all_axes_and_boxes(self):
        area = (((0, 2), (5, 5)), ((4, 4), (0, 9)))
        for x in range(-1, 6):
            for y in range(-1, 11):
                right = (0 <= x <= 2 and y == 5) or (x == 4 and 0 <= y <= 9)
                self.assertIs(is_in(area, (x, y)), right)
        self.assertIs(is_in((), (1,)), False)
        self.assertIs(is_in((((-1000, 1000),) * 3,), (0, 0, 1000)), True)
        self.assertIs(is_in((((-1000, 1000),),), (10 ** 199,)), False)

    def test_judges_any_object(self):
        area = (((-9, 9),),)
        for thing in [(), (1, 1), [1], (True,), ("1",), (None,), 1, ((1,),)] + support.junk():
            if thing != (1,) or thing == (True,) and type(thing[0]) is bool:
                self.assertIs(is_in(area, thing), False)
            self.assertIs(is_in((), thing), False)
        self.assertIs(is_in(area, (1,)), True)


class TickTest(unittest.TestCase):
    def test_against_the_words(self):
        chance = random.Random(31)
        told = {}
        for _ in range(150):
            plant = support.some_plant(chance)
            values = support.all_values(plant.form)
            for _ in range(40):
                place = chance.choice(support.rows(plant.box))
                push = chance.choice(support.rows(plant.pushes))
                most = chance.choice((5, 100))
                row = tuple(chance.randint(-most, most) for _ in range(chance.randint(1, 2)))
                try:
                    right = support.tick(plant, values, place, row, push)
                except support.Lacking:
                    right = Beyond
                except support.ByNought:
                    right = Nought
                if right in (Beyond, Nought):
                    with self.assertRaises(right):
                        tick(plant, place, row, push)
                else:
                    self.assertEqual(tick(plant, place, row, push), right)
                self.assertEqual(mode_at(plant, place), support.mode(plant, place))
                told[right] = told.get(right, 0) + 1
        self.assertGreater(min(told[Beyond], told[Nought], len(told)), 20)

    def test_first_mode_that_holds(self):
        modes = tuple((area, (("number", at),)) for at, area in enumerate(
            [(((1, 2),),), (((2, 3),), ((0, 0),)), (), None]))
        plant = plant_with(modes=modes, pushes=((0, 0),))
        self.assertEqual([mode_at(plant, (at,)) for at in range(5)], [1, 0, 0, 1, 3])
        self.assertEqual([tick(plant, (at,), (9,), (0,)) for at in range(5)], [(1,), (0,), (0,), (1,), (3,)])

    def test_item_that_lacks_is_nought(self):
        plant = plant_with(modes=((None, (("plus", ("in", 1), ("in", 2)),)),))
        self.assertEqual(tick(plant, (0,), (2,), (0,)), (2,))
        self.assertEqual(tick(plant, (0,), (2, 1), (0,)), (3,))
        self.assertEqual(tick(plant, (0,), (0, 1), (1,)), (2,))

    def test_moved_to_the_ends(self):
        move = (("plus", ("in", 0), ("in", 2)), ("minus", ("in", 1), ("in", 3)))
        plant = Plant(Format(8, 0, 0), "near", ((0, 4), (-3, -1)), ((None, move),), ((-1, 1), (0, 2)))
        self.assertEqual(tick(plant, (2, -2), (100, 100), (-1, 2)), (4, -3))
        self.assertEqual(tick(plant, (2, -2), (-100, -100), (1, 0)), (0, -1))
        self.assertEqual(tick(plant, (2, -2), (1, 1), (1, 2)), (4, -1))
        self.assertEqual(tick(plant, (4, -2), (1, 0), (-1, 0)), (4, -2))
        self.assertEqual(tick(plant, (4, -2), (5, 0), (-1, 0)), (4, -2))

    def test_errors_in_order(self):
        plant = plant_with(box=((0, 4), (0, 4)), modes=((None, (("in", 0), ("in", 1))),), pushes=((0, 1), (-2, 0)))
        places = [(5, 0), (0, -1), (0,), (0, 0, 0), [0, 0], (True, 0), (0, None), (), 0]
        rows = [(), (1, 2, 3), (101,), (-101, 0), [1], (True,), (1, None), 1, None]
        pushes = [(2, 0), (0, -3), (0, 1), (0,), (0, 0, 0), [0, 0], (True, 0), None]
        junk = support.junk()
        for place in places + [thing for thing in junk if thing not in [(0, 0), (1, 2), (2, 4)]]:
            with self.assertRaises(NoPlace):
                tick(plant, place, None, None)
            with self.assertRaises(NoPlace):
                mode_at(plant, place)
        for row in rows + [thing for thing in junk if thing not in [(1,), (0, 0), (1, 2), (2, 4)]]:
            with self.assertRaises(NoRow):
                tick(plant, (0, 0), row, None)
        for push in pushes + [thing for thing in junk if thing != (0, 0)]:
            with self.assertRaises(NoPush):
                tick(plant, (0, 0), (0,), push)
        for row in [(100,), (-100, 100), (0, 0)]:
            self.assertEqual(tick(plant, (3, 1), row, (1, -2)), (4, 0))

    def test_raised_axis_by_axis(self):
        nought, beyond = ("over", ("number", 1), ("in", 0)), ("number", 1000)
        for formulas, right in [((nought, beyond), Nought), ((beyond, nought), Beyond), ((("in", 0), nought), Nought)]:
            plant = Plant(Format(3, 0, 0), "up", ((0, 1), (0, 1)), ((None, formulas),), ((0, 0), (0, 0)))
            with self.assertRaises(right):
                tick(plant, (0, 0), (0,), (0, 0))
            with self.assertRaises(NoPush):
                tick(plant, (0, 0), (0,), (0, 1))


if __name__ == "__main__":
    unittest.main()
