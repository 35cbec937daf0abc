"""Promises 2.3 and 2.4: crafts, lots, boxes behind a tick."""

import random
import unittest

from steadycraft.crafts import Craft, after, box_after, framed, ticks
from steadycraft.dyads import Format
from steadycraft.errors import BadCraft, Beyond, NoBox, NoLever, NoLot, Nought
from steadycraft.formulas import enclosed
from steadycraft.plants import Plant
from steadycraft.spans import whole_in
from tests import support

PLANT = support.small_plant()
X = ("in", 0)
BEYOND = ("times", ("number", 1000), ("number", 9))


def craft_with(**told):
    found = {"plant": PLANT, "levers": ((0,), (-1,)), "sensors": ((X, 0, 0),), "lengths": (1, 1, False),
             "starts": ((2,),)}
    found.update(told)
    return Craft(*[found[part] for part in ("plant", "levers", "sensors", "lengths", "starts")])


def plant_of(formula, form=Format(6, -4, 4)):
    return Plant(form, "near", ((0, 4),), ((None, (formula,)),), ((0, 1),))


class CraftTest(unittest.TestCase):
    def wrong(self, part, **told):
        with self.assertRaises(BadCraft) as caught:
            craft_with(**told)
        self.assertEqual(caught.exception.part, part, told)

    def test_attributes(self):
        craft = craft_with()
        self.assertEqual((craft.plant, craft.levers, craft.sensors), (PLANT, ((0,), (-1,)), ((X, 0, 0),)))
        self.assertEqual((craft.lengths, craft.starts), ((1, 1, False), ((2,),)))

    def test_plant(self):
        for thing in [thing for thing in support.junk() if not isinstance(thing, Plant)] + [Plant]:
            self.wrong("plant", plant=thing)

    def test_levers(self):
        for levers in [((0,),), ((0,), (1,), (2,), (3,), (4,)), ((100,), (-100,)), ((1, 2), (2, 1)), ((0, -100),)]:
            self.assertEqual(craft_with(levers=levers).levers, levers)
        odd = [(), ((0,), (1,), (2,), (3,), (4,), (5,)), ((101,),), ((-101,),), ((0,), (0,)), ((0, 0), (1,)),
               ((1, 2), (0, 0), (1, 2)), ((0, 0, 0),), ((),), [(0,)], ([0],), ((True,),), ((0, None),), (0,)]
        right = [((1, 2),)]
        for levers in odd + [thing for thing in support.junk() if thing not in right]:
            self.wrong("levers", levers=levers)

    def test_a_tick_that_raises(self):
        for formula in [("over", X, ("in", 1)), ("over", ("in", 1), ("minus", X, ("number", 4))), BEYOND,
                        ("times", ("in", 1), ("times", X, ("number", 999))),
                        ("plus", ("number", 1000), ("times", X, ("number", 5)))]:
            self.wrong("levers", plant=plant_of(formula), levers=((1,), (0,)), sensors=None)
        divided = plant_of(("over", X, ("in", 1)))
        self.assertEqual(craft_with(plant=divided, levers=((1,), (-1,))).levers, ((1,), (-1,)))

    def test_sensors(self):
        for sensors in [((X, 20, 3),), ((X, 0, 0),) * 3, ((X, 1, 0), (X, 1, 0), (X, 1, 3)), ((X, 2, 0), (X, 5, 2)),
                        ((X, 4, 1), (X, 0, 3), (("number", 3), 1, 0)), ((X, 7, 0), (X, 1, 1)), ((X, 0, 0), (X, 20, 1))]:
            product = 1
            for _, off, lacks in sensors:
                product *= 2 * off + 1 + (lacks > 0)
            self.assertLessEqual(product, 61)
            self.assertEqual(craft_with(sensors=sensors).sensors, sensors)
        odd = [(), ((X, 0, 0),) * 4, ((X, 21, 0),), ((X, -1, 0),), ((X, 0, 4),), ((X, 0, -1),), ((X, True, 0),),
               ((X, 0, False),), ((("in", 1), 0, 0),), ((X, 0),), ((X, 0, 0, 0),), [(X, 0, 0)], ([X, 0, 0],),
               ((X, 30, 0),), ((X, 15, 0), (X, 0, 1)), ((X, 2, 0), (X, 6, 0)), ((X, 10, 0), (X, 1, 0)), (X, 0, 0),
               ((X, 1, 1), (X, 1, 1), (X, 1, 1)), ((X, 20, 0), (X, 0, 1))]
        for sensors in odd + support.junk():
            self.wrong("sensors", sensors=sensors)
        for thing in support.junk():
            self.wrong("sensors", sensors=((thing, 0, 0),))

    def test_product_of_61(self):
        # 2 off + 1 = 61 is more than an off of 20 lets, so 60 is the greatest that comes.
        self.assertEqual(len(craft_with(sensors=((X, 7, 0), (X, 1, 1))).sensors), 2)
        self.assertEqual(len(craft_with(sensors=((X, 9, 1), (X, 1, 0))).sensors), 2)
        self.wrong("sensors", sensors=((X, 7, 1), (X, 1, 1)))
        self.wrong("sensors", sensors=((X, 10, 0), (X, 1, 0)))

    def test_a_sensor_that_raises(self):
        for formula in [("over", ("number", 1), X), BEYOND, ("times", X, ("number", 999))]:
            self.wrong("sensors", sensors=((X, 0, 0), (formula, 0, 0)))

    def test_wholes_up_to_their_bound(self):
        for sign in ("plus", "minus"):
            big = ("times", ("number", 1000), ("times", ("number", 1000), ("number", 100)))
            form = Format(24, 0, 20)
            plant = plant_of(X, form)
            to_bound = (sign, ("number", 0), big)
            self.assertEqual(len(craft_with(plant=plant, sensors=((to_bound, 0, 0),)).sensors), 1)
            beyond = (sign, to_bound, ("times", X, ("number", 4)))
            self.wrong("sensors", plant=plant, sensors=((beyond, 0, 0),))

    def test_lengths(self):
        for lengths in [(1, 6, True), (6, 6, False), (1, 1, True), (3, 5, False)]:
            self.assertEqual(craft_with(lengths=lengths).lengths, lengths)
        odd = [(0, 1, True), (1, 7, True), (2, 1, True), (1, 1, 0), (1, 1, 1), (1, 1, None), (True, 1, True), (1, 1),
               (1, True, True), [1, 1, True], (1, 1, True, True), (-1, 2, False)]
        for lengths in odd + support.junk():
            self.wrong("lengths", lengths=lengths)

    def test_starts(self):
        for starts in [((0,),), ((0,), (4,)), tuple((at,) for at in range(5))]:
            self.assertEqual(craft_with(starts=starts).starts, starts)
        odd = [(), ((5,),), ((-1,),), ((1,), (1,)), ((2,), (1,)), [(1,)], ([1],), ((True,),), ((1, 1),), (1,),
               ((1,), None), ((),)]
        for starts in odd + support.junk():
            self.wrong("starts", starts=starts)

    def test_first_wrong_part(self):
        parts = ["plant", "levers", "sensors", "lengths", "starts"]
        for at, part in enumerate(parts):
            self.wrong(part, **{name: 0 for name in parts[at:]})
        raises = {"levers": ((0,),), "plant": plant_of(("over", X, ("in", 1)))}
        self.wrong("levers", sensors=((BEYOND, 0, 0),), **raises)
        self.wrong("sensors", sensors=((BEYOND, 0, 0),), lengths=None)

    def test_equal(self):
        self.assertTrue(craft_with() == craft_with(plant=support.small_plant()))
        self.assertFalse(craft_with() != craft_with())
        for told in [{"plant": plant_of(X)}, {"levers": ((0,),)}, {"sensors": ((X, 1, 0),)},
                     {"lengths": (1, 1, True)}, {"lengths": (1, 2, False)}, {"starts": ((1,),)}]:
            self.assertFalse(craft_with() == craft_with(**told))
            self.assertTrue(craft_with() != craft_with(**told))
        for thing in support.junk():
            if thing is None or not isinstance(thing, Craft):
                self.assertFalse(craft_with() == thing)
                self.assertTrue(craft_with() != thing)


class LotTest(unittest.TestCase):
    def test_against_all_places_and_pushes(self):
        chance = random.Random(41)
        for _ in range(60):
            craft = support.some_craft(chance)
            slow = support.Slow(craft)
            for _ in range(6):
                lot = tuple(sorted(chance.sample(slow.places, chance.randint(0, len(slow.places)))))
                row = chance.randrange(len(craft.levers))
                self.assertEqual(after(craft, lot, row), slow.after(lot, row))
                right, lots = lot, []
                for _ in range(craft.lengths[1]):
                    right = slow.after(right, row)
                    lots.append(right)
                self.assertEqual(ticks(craft, lot, row), tuple(lots))

    def test_ends(self):
        craft = support.small_craft()
        self.assertEqual(after(craft, (), 0), ())
        self.assertEqual(after(craft, ((4,),), 0), ((4,),))
        self.assertEqual(after(craft, ((0,), (4,)), 1), ((0,), (3,), (4,)))
        self.assertEqual(ticks(craft_with(lengths=(1, 3, False)), ((0,),), 0),
                         (((0,), (1,)), ((0,), (1,), (2,)), ((0,), (1,), (2,), (3,))))
        self.assertEqual(len(ticks(craft_with(lengths=(6, 6, True)), (), 0)), 6)

    def test_errors_in_order(self):
        craft = support.small_craft()
        odd = [((2,), (1,)), ((1,), (1,)), ((5,),), ((-1,),), [(1,)], ([1],), ((True,),), ((1, 1),), (1,), None]
        for asked in (after, ticks):
            for lot in odd + [thing for thing in support.junk() if thing != ()]:
                with self.assertRaises(NoLot):
                    asked(craft, lot, None)
            for row in [2, -1, 10 ** 199] + [thing for thing in support.junk() if type(thing) is not int]:
                with self.assertRaises(NoLever):
                    asked(craft, ((1,),), row)


class BoxTest(unittest.TestCase):
    def about(self, rows):
        return tuple((min(items), max(items)) for items in zip(*rows))

    def right_frame(self, craft, box, row):
        """framed, reckoned by what is told of enclosures."""
        plant, spans = craft.plant, []
        places = [place for place in support.rows(plant.box) if support.is_inside((box,), place)]
        items = (craft.levers[row] + (0,))[:2]
        for mode in sorted({support.mode(plant, place) for place in places}):
            for axis, formula in enumerate(plant.modes[mode][1]):
                told = whole_in(enclosed(plant.form, formula, box + ((items[0],) * 2, (items[1],) * 2))[-1])
                for end, push in zip(told, plant.pushes[axis]):
                    low, high = plant.box[axis]
                    spans.append((axis, max(low, min(high, end + push))))
        return tuple((min(at for k, at in spans if k == axis), max(at for k, at in spans if k == axis))
                     for axis in range(len(box)))

    def test_against_all_places(self):
        chance = random.Random(43)
        told = {"framed": 0, Beyond: 0, Nought: 0, NoBox: 0}
        for _ in range(220):
            craft = support.some_craft(chance)
            slow = support.Slow(craft)
            for _ in range(5):
                box, row = support.some_box(chance, craft.plant.box), chance.randrange(len(craft.levers))
                if chance.random() < 0.2:
                    box = tuple((low, chance.randint(high, 1000)) for low, high in box)
                lot = [place for place in slow.places if support.is_inside((box,), place)]
                if not lot:
                    for asked in (box_after, framed):
                        with self.assertRaises(NoBox):
                            asked(craft, box, row)
                    told[NoBox] += 1
                    continue
                right = self.about(slow.after(lot, row))
                self.assertEqual(box_after(craft, box, row), right)
                told[self.check_frame(craft, box, row, right)] += 1
        self.assertGreater(min(told.values()), 3)
        self.assertGreater(told["framed"], 500)

    def check_frame(self, craft, box, row, behind):
        try:
            frame = self.right_frame(craft, box, row)
        except (Beyond, Nought) as error:
            with self.assertRaises(type(error)):
                framed(craft, box, row)
            return type(error)
        self.assertEqual(framed(craft, box, row), frame)
        for (low, high), (least, most) in zip(frame, behind):
            self.assertTrue(low <= least and most <= high)
        return "framed"

    def test_over_the_ends(self):
        craft = support.small_craft()
        self.assertEqual(box_after(craft, ((-1000, 1000),), 1), ((0, 4),))
        self.assertEqual(box_after(craft, ((3, 9),), 1), ((2, 4),))
        self.assertEqual(framed(craft, ((3, 9),), 1), ((2, 4),))
        self.assertEqual(framed(craft, ((-9, 0),), 0), ((0, 1),))
        # The enclosure is of the box as it is passed: it may be beyond the format though no place is.
        craft = craft_with(levers=((0,), (20,)))
        self.assertEqual(framed(craft, ((0, 1000),), 0), ((0, 4),))
        self.assertEqual(framed(craft, ((0, 900),), 1), ((4, 4),))
        with self.assertRaises(Beyond):
            framed(craft, ((0, 1000),), 1)

    def test_first_error_by_modes_then_axes(self):
        nought = ("over", ("number", 1), ("plus", X, ("number", (1, 2))))
        beyond = ("times", ("number", 100), ("times", X, ("number", 4)))
        form = Format(6, -1, 5)
        for mode_of_nought, right in [(0, Nought), (1, Beyond)]:
            formulas = [(nought, X), (X, beyond)]
            first = ((((0, 1), (0, 5)),), formulas[mode_of_nought])
            plant = Plant(form, "near", ((0, 2), (0, 2)), (first, (None, formulas[1 - mode_of_nought])),
                          ((0, 0), (0, 0)))
            craft = Craft(plant, ((0,),), ((X, 0, 0),), (1, 1, False), ((0, 0),))
            with self.assertRaises(right):
                framed(craft, ((-3, 9), (0, 2)), 0)
        for formulas, right in [((nought, beyond), Nought), ((beyond, nought), Beyond)]:
            plant = Plant(form, "near", ((0, 2), (0, 2)), ((None, formulas),), ((0, 0), (0, 0)))
            craft = Craft(plant, ((0,),), ((X, 0, 0),), (1, 1, False), ((0, 0),))
            with self.assertRaises(right):
                framed(craft, ((-3, 9), (0, 2)), 0)
            self.assertEqual(len(framed(craft, ((0, 0), (0, 2)), 0)), 2)

    def test_modes_that_count_alone(self):
        modes = (((((0, 1),),), (("number", 0),)), ((((0, 4),),), (("number", 4),)), (None, (("number", 1000),)))
        plant = Plant(Format(6, -4, 10), "near", ((0, 4),), modes, ((0, 0),))
        craft = Craft(plant, ((0,),), ((X, 0, 0),), (1, 1, False), ((0,),))
        self.assertEqual(framed(craft, ((0, 1),), 0), ((0, 0),))
        self.assertEqual(framed(craft, ((1, 2),), 0), ((0, 4),))
        self.assertEqual(framed(craft, ((2, 9),), 0), ((4, 4),))

    def test_errors_in_order(self):
        craft = support.small_craft()
        odd = [((5, 9),), ((-9, -1),), ((0, 1), (0, 1)), (), ((1, 0),), ((0, 1001),), ((-1001, 0),), [(0, 1)],
               ([0, 1],), ((0, True),), (0, 1), ((0, 1, 2),), None]
        for asked in (box_after, framed):
            for box in odd + [thing for thing in support.junk() if thing != ((1, 2),)]:
                with self.assertRaises(NoBox):
                    asked(craft, box, None)
            for row in [2, -1, 10 ** 199] + [thing for thing in support.junk() if type(thing) is not int]:
                with self.assertRaises(NoLever):
                    asked(craft, ((0, 1000),), row)


if __name__ == "__main__":
    unittest.main()
