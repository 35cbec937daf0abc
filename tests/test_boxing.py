"""Promise 3.5: boxes about a lot, and the places in boxes."""

import random
import unittest

from steadycraft.boxing import boxed, boxes
from steadycraft.crafts import Craft, after
from steadycraft.dyads import Format
from steadycraft.errors import NoBox, NoLot, NoNumber
from steadycraft.plants import Plant
from tests import support
from tests.playing import box_of, cuts


def some_lot(chance, axes, many, most):
    return tuple(sorted({tuple(chance.randint(-most, most) for _ in range(axes)) for _ in range(many)}))


class BoxesTest(unittest.TestCase):
    def test_against_the_words(self):
        chance = random.Random(621)
        for _ in range(400):
            lot = some_lot(chance, chance.randint(1, 3), chance.randint(1, 9), chance.choice((2, 9, 10 ** 60)))
            for many in {1, 2, 3, max(1, len(lot) - 1), len(lot), len(lot) + 1, 400}:
                self.assertEqual(boxes(lot, many), tuple(box_of(part) for part in cuts(lot, many)))

    def test_examples_and_like_steps(self):
        lot = ((0,), (1,), (5,))
        self.assertEqual(boxes(lot, 2), (((0, 1),), ((5, 5),)))
        self.assertEqual(boxes(lot, 1), (((0, 5),),))
        self.assertEqual(boxes(lot, 3), (((0, 0),), ((1, 1),), ((5, 5),)))
        alike = ((0,), (2,), (4,), (6,))
        self.assertEqual(boxes(alike, 2), (((0, 0),), ((2, 6),)))
        self.assertEqual(boxes(alike, 3), (((0, 0),), ((2, 2),), ((4, 6),)))
        self.assertEqual(boxes(((0, 0), (0, 5), (3, 3), (4, 9)), 2), (((0, 3), (0, 5)), ((4, 4), (9, 9))))
        self.assertEqual(boxes(((0, 0, 9), (1, 9, 0), (2, 0, 0)), 2), (((0, 0), (0, 0), (9, 9)), ((1, 2), (0, 9), (0, 0))))
        great = 10 ** 199
        self.assertEqual(boxes(((-great,), (0,), (great + 1,)), 2), (((-great, 0),), ((great + 1, great + 1),)))

    def test_how_many(self):
        lot = tuple((at * at,) for at in range(-1, 401) if at >= 0)
        self.assertEqual(len(boxes(lot, 400)), 400)
        self.assertEqual(len(boxes(lot, 399)), 399)
        self.assertEqual(boxes(lot[:400], 400), tuple(((one, one),) for one, in lot[:400]))
        for many in [0, -1, 401, True, 10 ** 199] + [one for one in support.junk() if type(one) is not int]:
            with self.assertRaises(NoNumber):
                boxes(lot, many)

    def test_no_lot(self):
        wrong = [(), [(1,)], ((1,), (1,)), ((2,), (1,)), ((1,), (1, 2)), ((1, 2, 3, 4),), ((),), ((True,),), ((1.0,),),
                 ([1],), ((None,),), (1, 2), ((1,), None), ((1, "2"),)]
        for lot in wrong + [one for one in support.junk() if one != ((1, 2),)]:
            with self.assertRaises(NoLot):
                boxes(lot, 0)

    def test_many_rows(self):
        lot = tuple((at,) for at in range(0, 40000, 2))
        self.assertEqual(boxes(lot, 2), (((0, 0),), ((2, 39998),)))


class BoxedTest(unittest.TestCase):
    def test_against_all_places(self):
        chance = random.Random(622)
        for _ in range(120):
            slow = support.Slow(support.some_craft(chance))
            craft = slow.craft
            told = tuple(support.some_box(chance, craft.plant.box) for _ in range(chance.randint(0, 9)))
            lot = tuple(place for place in slow.places if support.is_inside(told, place))
            self.assertEqual(boxed(craft, told), lot)

    def test_beyond_the_plant(self):
        craft = support.small_craft()
        self.assertEqual(boxed(craft, (((-1000, 1),), ((4, 1000),))), ((0,), (1,), (4,)))
        self.assertEqual(boxed(craft, (((5, 9),),)), ())
        self.assertEqual(boxed(craft, ()), ())
        self.assertEqual(boxed(craft, (((1, 3),),) * 400), ((1,), (2,), (3,)))

    def test_no_box(self):
        craft = support.small_craft()
        wrong = [(((0, 1), (0, 1)),), [((0, 1),)], ((0, 1),), (((1, 0),),), (((0, 1001),),), (((-1001, 0),),),
                 (((True, 1),),), (((0, 1), ),) + (None,), ((),), ([(0, 1)],), (((0, 1, 2),),)]
        for told in wrong + [one for one in support.junk() if one != ()]:
            with self.assertRaises(NoBox):
                boxed(craft, told)
        with self.assertRaises(NoBox):
            boxed(craft, boxes(((0,), (10 ** 9,)), 1))


class FactOfBoxesTest(unittest.TestCase):
    def test_boxed_holds_the_lot_and_what_comes_of_it(self):
        chance = random.Random(623)
        for _ in range(150):
            slow = support.Slow(support.some_craft(chance, most_places=40))
            craft = slow.craft
            lot = tuple(sorted(chance.sample(slow.places, chance.randint(1, len(slow.places)))))
            row = chance.randrange(len(craft.levers))
            for many in (1, 2, 3, len(lot)):
                wider = boxed(craft, boxes(lot, many))
                self.assertLessEqual(set(lot), set(wider))
                self.assertLessEqual(set(after(craft, lot, row)), set(after(craft, wider, row)))
            self.assertEqual(boxed(craft, boxes(lot, len(lot))), lot)
            self.assertEqual(boxed(craft, boxes(lot, 400)), lot)

    def test_two_axes(self):
        plant = Plant(Format(6, 0, 0), "near", ((0, 3), (0, 3)), ((None, (("in", 0), ("in", 1))),), ((0, 0), (0, 0)))
        craft = Craft(plant, ((0,),), ((("in", 0), 0, 0),), (1, 1, False), ((0, 0),))
        lot = ((0, 0), (1, 2), (3, 3))
        self.assertEqual(boxes(lot, 2), (((0, 0), (0, 0)), ((1, 3), (2, 3))))
        self.assertEqual(boxed(craft, boxes(lot, 2)), ((0, 0), (1, 2), (1, 3), (2, 2), (2, 3), (3, 2), (3, 3)))


if __name__ == "__main__":
    unittest.main()
