"""Promise 9.1: watches."""

import random
import unittest

from steadycraft.crafts import Craft
from steadycraft.errors import NoArea, NoLever, NoReading, NotAwaited, NothingDone
from steadycraft.runs import is_run, places_of
from steadycraft.watching import Watch
from tests import support
from tests.playing import Play
from tests.test_games import falling, line

X = ("in", 0)


class Known:
    """What is known of a story without wishes, slowly; the story is told as it grows."""

    def __init__(self, slow):
        self.play = Play(slow, ())
        self.aheads, self.nodes, self.events = [[self.play.first()]], [], []

    def heard(self, reading):
        node = None
        for knowledge in self.aheads[-1]:
            node = self.play.behind(knowledge).get(reading, node)
        self.nodes.append(node)
        self.events.append(reading)

    def chose(self, row):
        self.aheads.append([] if self.nodes[-1] is None else list(self.play.led(self.nodes[-1], row)))
        self.events.append(row)

    def back(self):
        if len(self.events) % 2:
            self.nodes.pop()
        else:
            self.aheads.pop()
        self.events.pop()

    def places(self):
        return [] if not self.nodes or self.nodes[-1] is None else sorted(place for place, _ in self.nodes[-1][3])


class WatchTest(unittest.TestCase):
    def check(self, craft, watch, known):
        left = [at for at, node in enumerate(known.nodes) if node is None]
        self.assertEqual(watch.word(), "left" if left else "within")
        self.assertEqual(watch.when(), left[0] if left else None)
        self.assertEqual(watch.places(), tuple(known.places()))
        for area in [(), tuple((tuple((low, low) for low, _ in craft.plant.box),)), (craft.plant.box,)]:
            inside = [support.is_inside(area, place) for place in known.places()]
            self.assertIs(watch.surely(area), all(inside))
            self.assertIs(watch.perhaps(area), any(inside))
        run = watch.run()
        if left or not known.nodes:
            self.assertIsNone(run)
            return
        self.assertIs(is_run(craft, run), True)
        told = [event for reading, row, _ in run[1] for event in (reading, row)]
        self.assertEqual(told[:-1] + ([] if told[-1] is None else told[-1:]), known.events)
        self.assertEqual(run[1][-1][2], ())
        self.assertIn(places_of(craft, run)[-1][0], known.places())

    def test_step_by_step_there_and_back(self):
        chance, told, runs = random.Random(1401), {"within": 0, "left": 0}, 0
        for _ in range(120):
            slow = support.Slow(support.some_craft(chance))
            craft = slow.craft
            watch, known = Watch(craft), Known(slow)
            for _ in range(24):
                self.check(craft, watch, known)
                if known.events and chance.random() < 0.25:
                    self.assertIsNone(watch.back())
                    known.back()
                elif len(known.events) % 2:
                    row = chance.randrange(len(craft.levers))
                    known.chose(row)
                    self.assertEqual(watch.chose(row), watch.word())
                else:
                    reading = self.some_reading(chance, slow, known)
                    known.heard(reading)
                    self.assertEqual(watch.heard(reading), watch.word())
                told[watch.word()] += 1
                runs += len(known.nodes) > 2 and None not in known.nodes
        self.assertGreater(min(told.values()), 300)
        self.assertGreater(runs, 300)

    def some_reading(self, chance, slow, known):
        """Mostly one that can come, else one of the same form."""
        can = sorted({reading for knowledge in known.aheads[-1] for reading in known.play.behind(knowledge)}, key=repr)
        if can and chance.random() < 0.9:
            return chance.choice(can)
        reading = tuple(chance.choice((None, 0, 1, 2, 10 ** 150)) for _ in slow.craft.sensors)
        return reading + ((chance.randint(0, slow.craft.lengths[1]),) if slow.craft.lengths[2] else ())

    def test_the_documents_craft(self):
        watch = Watch(falling())
        self.assertEqual((watch.word(), watch.when(), watch.places(), watch.run()), ("within", None, (), None))
        self.assertEqual((watch.surely(((),) * 0), watch.perhaps((((0, 4),),))), (True, False))
        self.assertEqual(watch.heard((2,)), "within")
        self.assertEqual((watch.places(), watch.run()), (((2,),), ((2,), (((2,), None, ()),))))
        self.assertEqual(watch.chose(1), "within")
        self.assertEqual(watch.run(), ((2,), (((2,), 1, ()),)))
        self.assertEqual(watch.heard((3,)), "within")
        self.assertEqual(watch.run(), ((2,), (((2,), 1, ((1,),)), ((3,), None, ()))))
        watch.chose(0)
        # Row 1 was chosen at first and acts now: no place is 4 yet.
        self.assertEqual((watch.heard((4,)), watch.when(), watch.places(), watch.run()), ("left", 2, (), None))
        watch.chose(0)
        self.assertEqual((watch.heard((3,)), watch.when()), ("left", 2))
        for word in ("left", "left", "within", "within"):
            watch.back()
            self.assertEqual(watch.word(), word)
        self.assertEqual((watch.when(), watch.places()), (None, ((3,),)))
        self.assertEqual((watch.chose(0), watch.heard((3,))), ("within", "within"))

    def test_left_at_the_first_reading(self):
        watch = Watch(falling())
        self.assertEqual((watch.heard((0,)), watch.when(), watch.places()), ("left", 0, ()))
        self.assertEqual((watch.surely((((0, 4),),)), watch.perhaps((((0, 4),),))), (True, False))
        watch.back()
        self.assertEqual((watch.word(), watch.when(), watch.run()), ("within", None, None))

    def test_lengths_and_lacks(self):
        craft = Craft(line(0, 9, ("plus", X, ("number", 1))), ((0,),), ((X, 0, 1),), (1, 3, True), ((0,),))
        watch = Watch(craft)
        self.assertEqual(watch.heard((None, 0)), "within")
        watch.chose(0)
        for reading, word in [((None, 1), "left"), ((2, 2), "within"), ((2, 3), "left"), ((0, 0), "left"), ((3, 3), "within")]:
            self.assertEqual(watch.heard(reading), word)
            watch.back()

    def test_not_awaited(self):
        watch = Watch(falling())
        for thing in support.junk() + [0, 1, 7]:
            with self.assertRaises(NotAwaited):
                watch.chose(thing)
        watch.heard((2,))
        for thing in support.junk() + [(2,), (3,)]:
            with self.assertRaises(NotAwaited):
                watch.heard(thing)
        self.assertEqual((watch.word(), watch.places()), ("within", ((2,),)))
        watch.chose(0)
        with self.assertRaises(NotAwaited):
            watch.chose(0)

    def test_no_reading_and_no_lever(self):
        watch = Watch(falling())
        for thing in support.junk() + [(2, 0), ("2",), (True,), [2], 2]:
            if thing != (1,):
                with self.assertRaises(NoReading):
                    watch.heard(thing)
        self.assertEqual((watch.word(), watch.when()), ("within", None))
        watch.heard((2,))
        for thing in support.junk() + [2, -1, True, (0,)]:
            if type(thing) is int and thing in (0, 1):
                continue
            with self.assertRaises(NoLever):
                watch.chose(thing)
        self.assertEqual(watch.run(), ((2,), (((2,), None, ()),)))

    def test_no_area(self):
        left = Watch(falling())
        left.heard((9,))
        for watch in (Watch(falling()), left):
            for thing in support.junk() + [((0, 4),), (((0, 4), (0, 4)),), (((4, 0),),), [((0, 4),)], (((0, 1001),),),
                                           (((0, 1),),) * 7]:
                if thing == ():
                    continue
                for ask in (watch.surely, watch.perhaps):
                    with self.assertRaises(NoArea):
                        ask(thing)
        self.assertIs(watch.surely((((0, 1),),) * 6), True)

    def test_nothing_done(self):
        watch = Watch(falling())
        with self.assertRaises(NothingDone):
            watch.back()
        watch.heard((2,))
        watch.chose(1)
        watch.back()
        watch.back()
        with self.assertRaises(NothingDone):
            watch.back()
        self.assertEqual(watch.heard((2,)), "within")

    def test_copies_go_on_apart(self):
        watch = Watch(falling())
        watch.heard((2,))
        other = watch.copy()
        self.assertIsInstance(other, Watch)
        watch.chose(1)
        self.assertEqual(watch.heard((0,)), "left")
        self.assertEqual((other.word(), other.run()), ("within", ((2,), (((2,), None, ()),))))
        self.assertEqual((other.chose(0), other.heard((2,))), ("within", "within"))
        third = watch.copy()
        watch.back()
        self.assertEqual((third.word(), third.when(), watch.word()), ("left", 1, "within"))
        third.back()
        third.back()
        self.assertEqual((third.chose(0), watch.run()), ("within", ((2,), (((2,), 1, ()),))))

    def test_a_craft_that_keeps_its_bounds(self):
        chance = random.Random(1402)
        for _ in range(60):
            slow = support.Slow(support.some_craft(chance))
            start, periods = support.some_run(chance, slow, 12)
            watch = Watch(slow.craft)
            for reading, row, _ in periods[:-1]:
                self.assertEqual(watch.heard(reading), "within")
                self.assertEqual(watch.chose(row), "within")
            self.assertEqual(watch.heard(periods[-1][0]), "within")
            places = places_of(slow.craft, (start, periods))
            self.assertIn(places[-1][0], watch.places())

    def test_many_standings(self):
        craft = Craft(line(0, 399, X, (-20, 20)), ((0,),), ((("number", 0), 0, 0),), (6, 6, False), ((200,),))
        watch = Watch(craft)
        for _ in range(5):
            self.assertEqual(watch.heard((0,)), "within")
            watch.chose(0)
        self.assertEqual(len(watch.places()), 400)
        self.assertIs(is_run(craft, watch.run()), True)

    def test_equal_to_itself_alone(self):
        watch = Watch(falling())
        self.assertTrue(watch == watch)
        for thing in support.junk():
            self.assertFalse(watch == thing)
            self.assertTrue(watch != thing)


if __name__ == "__main__":
    unittest.main()
