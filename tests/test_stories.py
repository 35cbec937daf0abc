"""Promise 3.4: what is known behind a story, and runs that it may have been."""

import random
import unittest

from steadycraft.crafts import Craft
from steadycraft.dyads import Format
from steadycraft.errors import NoStanding, NoStory, Outside, TooMany
from steadycraft.knowing import led
from steadycraft.plants import Plant
from steadycraft.runs import is_run
from steadycraft.stories import is_run_to, known, run_to
from steadycraft.wishes import breaks_at
from tests import support
from tests.playing import is_standing
from tests.test_games import CROWDING, NEVER_FOUR, crowded, falling

X = ("in", 0)


def runs_by(slow, wishes, story):
    """All runs with the readings and rows of a story in which no wish breaks, each with its places."""
    craft, (low, high, told) = slow.craft, slow.craft.lengths
    found = [((start, ()), [start]) for start in craft.starts]
    lacks, row = (0,) * len(craft.sensors), 0
    for at, (reading, chosen) in enumerate(story):
        further = []
        last = at == len(story) - 1
        for (start, periods), places in found:
            length = len(periods[-1][2]) if periods else 0
            if reading not in slow.readings(places[-1], lacks, length):
                continue
            for many in [0] if last else range(low, high + 1):
                for pushes, walked in slow.walks(places[-1], row, many):
                    further.append(((start, periods + ((reading, chosen, pushes),)), places + list(walked[1:])))
        found, row = further, chosen
        lacks = support.lacks_behind(lacks, reading)
    return [(run, places) for run, places in found if support.broken(wishes, places) is None]


def end(wishes, places):
    return places[-1], tuple(support.count(wish, places) for wish in wishes)


def some_story(chance, slow, many):
    """A story of so many readings; now and then no run has it."""
    craft, run = slow.craft, support.some_run(chance, slow, many)
    story = [[reading, row] for reading, row, _ in run[1]]
    story[-1][1] = None
    if chance.random() < 0.25:
        reading = chance.choice(story)
        reading[0] = tuple(chance.choice((None, -1, 0, 1, 2)) for _ in craft.sensors)
        if craft.lengths[2]:
            reading[0] += (chance.randint(0, craft.lengths[1]),)
    return tuple(map(tuple, story))


def cases(seed, many, periods=(1, 1, 2, 2, 3)):
    """Small crafts, wishes and stories by chance, and all runs by these."""
    chance = random.Random(seed)
    while many > 0:
        slow = support.Slow(support.some_craft(chance, most_places=7, lengths=chance.choice(
            ((1, 1, False), (1, 2, False), (1, 2, True), (2, 2, True), (1, 1, True)))))
        wishes = support.some_wishes(chance, slow.craft.plant)[:2]
        if len(slow.pushes) > 3:
            continue
        story = some_story(chance, slow, chance.choice(periods))
        many -= 1
        yield chance, slow, wishes, story, runs_by(slow, wishes, story)


def judged(craft, right, thing):
    """Whether a thing is one of some runs, all of its items being of their kinds."""
    return any(repr(run) == repr(thing) for run in right)


class HindsightTest(unittest.TestCase):
    """THE FACT OF HINDSIGHT, against a going through of all runs, push by push."""

    def test_known_and_run_to(self):
        told = {"known": 0, "outside": 0, "longer": 0, "unfit": 0}
        for chance, slow, wishes, story, runs in cases(601, 700):
            craft = slow.craft
            right = sorted({end(wishes, places) for _, places in runs})
            if not right:
                with self.assertRaises(Outside):
                    known(craft, wishes, story)
                told["outside"] += 1
            else:
                row, lacks, length, standings = known(craft, wishes, story)
                self.assertEqual(standings, tuple(right))
                self.assertEqual(row, story[-2][1] if len(story) > 1 else 0)
                self.assertEqual(length, story[-1][0][-1] if craft.lengths[2] else None)
                expected = (0,) * len(craft.sensors)
                for reading, _ in story:
                    expected = support.lacks_behind(expected, reading)
                self.assertEqual(lacks, expected)
                told["known"] += 1
                told["longer"] += len(story) > 2
            for standing in right:
                run = run_to(craft, wishes, story, standing)
                self.assertIn(run, [one for one, places in runs if end(wishes, places) == standing])
                self.assertIs(is_run_to(craft, wishes, story, standing, run), True)
            for place in chance.sample(slow.places, min(3, len(slow.places))):
                standing = (place, tuple(chance.randint(-1, 3) for _ in wishes))
                if standing not in right:
                    self.assertIsNone(run_to(craft, wishes, story, standing))
                    told["unfit"] += 1
        self.assertGreater(min(told.values()), 60)

    def test_is_run_to_with_one_thing_otherwise(self):
        told = {True: 0, False: 0}
        for at, (chance, slow, wishes, story, runs) in enumerate(cases(602, 250, (1, 2, 2, 3))):
            if not runs:
                continue
            run, places = chance.choice(runs)
            standing = end(wishes, places)
            right = [one for one, walked in runs if end(wishes, walked) == standing]
            things = support.changed(run, at, 25) + [one for one, _ in runs[:20]]
            for thing in things:
                expected = judged(slow.craft, right, thing)
                self.assertIs(is_run_to(slow.craft, wishes, story, standing, thing), expected)
                told[expected] += 1
            # The same runs under another story, and to another standing.
            other = some_story(chance, slow, len(story))
            if other != story:
                self.assertIs(is_run_to(slow.craft, wishes, other, standing, run), False)
            self.assertIs(is_run_to(slow.craft, (), story, (places[-1], ()), run), True)
        self.assertGreater(min(told.values()), 300)


class StoryTest(unittest.TestCase):
    def test_examples(self):
        craft, story = falling(), (((2,), 1), ((3,), None))
        self.assertEqual(known(craft, NEVER_FOUR, story), (1, (0,), None, (((3,), (0,)),)))
        run = ((2,), (((2,), 1, ((1,),)), ((3,), None, ())))
        self.assertEqual(run_to(craft, NEVER_FOUR, story, ((3,), (0,))), run)
        self.assertIsNone(run_to(craft, NEVER_FOUR, story, ((2,), (0,))))
        for thing, right in [(run, True), (((2,), (((2,), 1, ((1,),)), ((3,), 0, ()))), False),
                             (((2,), (((2,), 1, ((1,),)), ((3,), None, ((0,),)))), False),
                             (((2,), (((2,), 0, ((1,),)), ((3,), None, ()))), False),
                             (((2,), (((2,), 1, ((1,),)),)), False), (((2,), (((2,), 1, ((0,),)), ((3,), None, ()))), False),
                             (((2,), (((2,), True, ((1,),)), ((3,), None, ()))), False)]:
            self.assertIs(is_run_to(craft, NEVER_FOUR, story, ((3,), (0,)), thing), right)

    def test_told_lengths_are_taken(self):
        plant = Plant(Format(10, 0, 0), "near", ((0, 30),), ((None, (("plus", X, ("number", 1)),)),), ((0, 1),))
        craft = Craft(plant, ((0,),), ((("number", 0), 0, 0),), (2, 3, True), ((0,),))
        self.assertEqual(known(craft, (), (((0, 0), None),))[3], (((0,), ()),))
        for length, last in [(2, 4), (3, 6)]:
            told = known(craft, (), (((0, 0), 0), ((0, length), None)))
            self.assertEqual(told, (0, (0,), length, tuple(((at,), ()) for at in range(length, last + 1))))
        for length in (0, 1):
            with self.assertRaises(Outside):
                known(craft, (), (((0, 0), 0), ((0, length), None)))
        with self.assertRaises(Outside):
            known(craft, (), (((0, 2), None),))
        story = (((0, 0), 0), ((0, 3), 0), ((0, 2), None))
        self.assertEqual(known(craft, (), story)[3], tuple(((at,), ()) for at in range(5, 11)))
        run = run_to(craft, (), story, ((7,), ()))
        self.assertEqual([len(pushes) for _, _, pushes in run[1]], [3, 2, 0])
        self.assertIs(is_run(craft, run), True)

    def test_wishes_broken_amid(self):
        plant = Plant(Format(10, 0, 0), "near", ((0, 9),), ((None, (("plus", X, ("number", 1)),)),), ((0, 1),))
        craft = Craft(plant, ((0,),), ((X, 0, 0),), (2, 2, False), ((0,),))
        story = (((0,), 0), ((3,), None))
        for area, end_at in [((1, 1), (2,)), ((2, 2), (1,))]:
            wishes = (("never", ((area,),)),)
            run = run_to(craft, wishes, story, ((3,), (0,)))
            self.assertEqual(run[1][0][2], ((1,), (0,)) if end_at == (2,) else ((0,), (1,)))
            self.assertIsNone(breaks_at(craft, wishes, run))
            other = ((0,), (((0,), 0, ((0,), (1,)) if end_at == (2,) else ((1,), (0,))), ((3,), None, ())))
            self.assertIs(is_run_to(craft, wishes, story, ((3,), (0,)), other), False)
        with self.assertRaises(Outside):
            known(craft, (("never", (((1, 2),),)),), story)

    def test_no_story(self):
        craft = Craft(support.small_plant(), ((0,), (1,)), ((X, 1, 1),), (1, 2, True), ((2,),))
        right = (((2, 0), 1), ((None, 1), 0), ((3, 2), None))
        self.assertIs(len(known(craft, (), right)[3]) > 0, True)
        wrong = [(), list(right), right[:2], right + right[2:], (((2, 0), None), ((None, 1), 0), ((3, 2), None)),
                 (((2, 0), 2), ((3, 1), None)), (((2, 0), True), ((3, 1), None)), (((2, 0), -1), ((3, 1), None)),
                 (((2,), None),), (((2, 0, 0), None),), (([2, 0], None),), (((True, 0), None),),
                 (((2, False), None),), (((2, 3), None),), (((2, -1), None),), (((2, None), None),),
                 (((2, 0), 0),), (((2, 0),),), ([(2, 0), None],), (((2, 0), None, None),), ((("2", 0), None),)]
        for story in wrong + support.junk():
            for call in (lambda: known(craft, (), story), lambda: run_to(craft, (), story, None),
                         lambda: is_run_to(craft, (), story, None, None)):
                with self.assertRaises(NoStory):
                    call()

    def test_against_the_form(self):
        craft = Craft(support.small_plant(), ((0,), (1,)), ((X, 1, 1),), (1, 2, True), ((2,),))
        right = (((2, 0), 1), ((None, 1), 0), ((3, 2), None))
        many = 0
        for story in support.changed(right, 603, 400, [None, True, 0, 1]):
            try:
                known(craft, (), story)
            except Outside:
                pass
            except NoStory:
                many += 1
                continue
            self.assertIs(type(story), tuple)
            self.assertTrue(story)
            for at, (reading, row) in enumerate(story):
                self.assertIs(type(reading), tuple)
                self.assertEqual(len(reading), 2)
                self.assertIn(type(reading[0]), (int, type(None)))
                self.assertIs(type(reading[1]), int)
                self.assertIn(reading[1], (0, 1, 2))
                if at == len(story) - 1:
                    self.assertIsNone(row)
                else:
                    self.assertIs(type(row), int)
                    self.assertIn(row, (0, 1))
        self.assertGreater(many, 200)

    def test_no_standing(self):
        craft, story = falling(), (((2,), 1), ((3,), None))
        outside = (((2,), 1), ((4,), None))
        wrong = [((5,), (0,)), ((3,), ()), ((3,), (0, 0)), ((3,), (32,)), ((3,), (-2,)), ((3,), (None,)),
                 ((3,), (False,)), [(3,), (0,)], ((3,), [0]), ((True,), (0,)), ((3,),), ((3,), (0,), 0)]
        for standing in wrong + support.junk():
            self.assertFalse(is_standing(craft, 1, standing))
            for told in (story, outside):
                with self.assertRaises(NoStanding):
                    run_to(craft, NEVER_FOUR, told, standing)
                with self.assertRaises(NoStanding):
                    is_run_to(craft, NEVER_FOUR, told, standing, None)
        self.assertIsNone(run_to(craft, NEVER_FOUR, outside, ((3,), (0,))))
        for thing in support.junk():
            self.assertIs(is_run_to(craft, NEVER_FOUR, story, ((3,), (0,)), thing), False)
            self.assertIs(is_run_to(craft, NEVER_FOUR, outside, ((3,), (0,)), thing), False)


    def test_no_pushes_in_the_last_period(self):
        plant = Plant(Format(10, 0, 0), "near", ((0, 4),), ((None, (X,)),), ((0, 0),))
        craft = Craft(plant, ((0,),), ((X, 0, 0),), (1, 2, False), ((2,),))
        story = (((2,), 0), ((2,), None))
        for last, right in [((), True), (((0,),), False), (((0,), (0,)), False)]:
            run = ((2,), (((2,), 0, ((0,),)), ((2,), None, last)))
            self.assertIs(is_run(craft, run), True)
            self.assertIs(is_run_to(craft, (), story, ((2,), ()), run), right)


class TooManyTest(unittest.TestCase):
    def test_whichever_comes_first(self):
        craft = crowded()
        standing = ((3, 3), (1, 1))
        here, out = ((0,), 0), ((1,), 0)
        for story in [(here, ((0,), None)), (here, ((1,), None)), (here, here, out, ((0,), None)),
                      (here, out, ((0,), None))]:
            with self.assertRaises(TooMany) as caught:
                known(craft, CROWDING, story)
            self.assertEqual(caught.exception.most, 3000)
            with self.assertRaises(TooMany):
                run_to(craft, CROWDING, story, standing)
            self.assertIs(is_run_to(craft, CROWDING, story, standing, None), False)
        for story in [(out, ((0,), None)), (out, here, ((0,), None)), (((1,), None),)]:
            with self.assertRaises(Outside):
                known(craft, CROWDING, story)
            self.assertIsNone(run_to(craft, CROWDING, story, standing))
        self.assertEqual(len(known(craft, CROWDING, (((0,), None),))[3]), 400)

    def test_behind_other_errors(self):
        craft, story = crowded(), (((0,), 0), ((0,), None))
        with self.assertRaises(NoStory):
            known(craft, CROWDING, story + (None,))
        with self.assertRaises(NoStory):
            run_to(craft, CROWDING, story + (None,), None)
        with self.assertRaises(NoStanding):
            run_to(craft, CROWDING, story, ((3, 3), (1,)))

    def test_later_along_the_story(self):
        craft = crowded((1, 1, False), ((0, 0),))
        node, many = known(craft, CROWDING, (((0,), None),)), 1
        while True:
            try:
                node = led(craft, CROWDING, node, 0)[0]
            except TooMany:
                break
            many += 1
            story = (((0,), 0),) * (many - 1) + (((0,), None),)
            self.assertEqual(known(craft, CROWDING, story), node)
        self.assertGreater(many, 3)
        story = (((0,), 0),) * many
        with self.assertRaises(TooMany):
            known(craft, CROWDING, story + (((0,), None),))
        with self.assertRaises(TooMany):
            known(craft, CROWDING, story + (((1,), None),))
        with self.assertRaises(Outside):
            known(craft, CROWDING, story[1:] + (((1,), None),))
        with self.assertRaises(Outside):
            known(craft, CROWDING, story[1:] + (((1,), 0), ((0,), None)))
        run = run_to(craft, CROWDING, story[1:] + (((0,), None),), node[3][0])
        self.assertIs(is_run_to(craft, CROWDING, story[1:] + (((0,), None),), node[3][0], run), True)

    def test_long_stories(self):
        craft = falling(levers=((0,), (-1,)))
        story = (((2,), 1),) + (((3,), 1),) * 2000 + (((3,), None),)
        wishes = NEVER_FOUR + (("again", (((3, 3),),), 2),)
        node = known(craft, wishes, story)
        self.assertEqual(node[3], (((3,), (0, 0)),))
        run = run_to(craft, wishes, story, node[3][0])
        self.assertEqual(len(run[1]), 2002)
        self.assertIs(is_run_to(craft, wishes, story, node[3][0], run), True)


if __name__ == "__main__":
    unittest.main()
