"""Promise 6.3: coarse choices, by boxes about what is known, and their machines."""

import random
import unittest

from steadycraft.coarse import is_choice_by, least_boxes, machine_by, steady_by
from steadycraft.crafts import Craft
from steadycraft.dyads import Format
from steadycraft.errors import NoChoice, NoNumber, TooMany
from steadycraft.games import is_choice, steady
from steadycraft.machines import is_machine, machine_of
from steadycraft.nodes import widened
from steadycraft.plants import Plant
from steadycraft.runs import is_run
from steadycraft.wishes import breaks_at
from tests import support, test_machines
from tests.playing import Play, plays
from tests.test_games import (CROWDING, NEVER_399, NEVER_FOUR, crowded, falling, near_choices, some_games, staying,
                              steered_run)

X, Y = ("in", 0), ("in", 1)


def coarse_games(seed, many):
    chance = random.Random(seed)
    for at in range(many):
        for play, nodes in plays(chance, 1, k=chance.choice((1, 1, 2, 3)), most_places=10):
            yield chance, play, nodes


def far_apart():
    """Known exactly here: left or right of a pit between, which a box about both holds too."""
    plant = Plant(Format(10, 0, 0), "near", ((0, 9),), ((None, (("plus", X, Y),)),), ((0, 0),))
    sensor = ("times", ("minus", X, ("number", 4)), ("minus", X, ("number", 5)))
    return Craft(plant, ((0,), (1,)), ((sensor, 0, 0),), (1, 1, False), ((0,), (9,)))


PIT = (("never", (((4, 5),),)), ("again", (((0, 0),), ((9, 9),)), 1))


class MadeGreaterTest(unittest.TestCase):
    def test_against_the_words(self):
        chance = random.Random(741)
        for _ in range(200):
            slow = support.Slow(support.some_craft(chance, most_places=20))
            standings = {(place, (chance.randint(-1, 2),)) for place in chance.choices(slow.places, k=8)}
            lot = tuple(sorted(standings))
            for k in (1, 2, 3, 8, 400):
                self.assertEqual(widened(lot, k), Play(slow, (), k).greater(lot))
            self.assertEqual(widened(lot, len({place for place, _ in lot})), lot)

    def test_counts_of_the_box_that_holds_them(self):
        lot = (((0,), (3,)), ((2,), (5,)), ((9,), (7,)))
        self.assertEqual(widened(lot, 2), (((0,), (3,)), ((0,), (5,)), ((1,), (3,)), ((1,), (5,)), ((2,), (3,)),
                                           ((2,), (5,)), ((9,), (7,))))
        self.assertEqual(len(widened(lot, 1)), 30)
        # A box about one part holds a place of another part: its counts come too.
        across = (((0, 0), (1,)), ((0, 9), (2,)), ((1, 4), (3,)), ((9, 4), (4,)))
        found = widened(across, 3)
        self.assertEqual(found, Play(support.Slow(self.square()), (), 3).greater(across))

    def square(self):
        plant = Plant(Format(6, 0, 0), "near", ((0, 9), (0, 9)), ((None, (X, Y)),), ((0, 0), (0, 0)))
        return Craft(plant, ((0,),), ((X, 0, 0),), (1, 1, False), ((0, 0),))


class SteadyByTest(unittest.TestCase):
    def test_against_rounds_over_coarse_nodes(self):
        told = {True: 0, False: 0, "unlike": 0}
        for chance, play, nodes in coarse_games(742, 220):
            craft, wishes = play.craft, play.wishes
            ranks = play.ranks(nodes)
            made = not play.broken_first() and not any(root in ranks for root in play.roots())
            choice = steady_by(craft, wishes, play.k)
            self.assertIs(choice is not None, made)
            if made:
                self.assertTrue(play.is_choice(choice))
                self.assertIs(is_choice_by(craft, wishes, play.k, choice), True)
                # Where there is a coarse choice there is a choice.
                self.assertEqual(steady(craft, wishes)[0], "made")
                told["unlike"] += not is_choice(craft, wishes, choice)
            told[made] += 1
        self.assertGreater(min(told.values()), 15)

    def test_a_box_holds_what_is_between(self):
        craft = far_apart()
        self.assertEqual(steady(craft, PIT)[0], "made")
        self.assertIsNone(steady_by(craft, PIT, 1))
        self.assertIsNotNone(steady_by(craft, PIT, 2))
        self.assertEqual(least_boxes(craft, PIT), 2)

    def test_standings_that_cannot_give_the_reading(self):
        # Left out ahead of the boxes, and not behind them: 1 comes back though it is not read.
        plant = Plant(Format(10, 0, 0), "near", ((0, 2),), ((None, (X,)),), ((0, 0),))
        even = ("times", ("minus", X, ("number", 1)), ("minus", X, ("number", 1)))
        craft = Craft(plant, ((0,),), ((even, 0, 0),), (1, 1, False), ((0,), (1,), (2,)))
        self.assertEqual(sorted(steady_by(craft, (), 1)),
                         [(0, (0,), None, (((0,), ()), ((1,), ()), ((2,), ()))), (0, (0,), None, (((1,), ()),))])
        self.assertEqual(sorted(steady_by(craft, (), 2)),
                         [(0, (0,), None, (((0,), ()), ((2,), ()))), (0, (0,), None, (((1,), ()),))])

    def test_no_number(self):
        craft = falling()
        choice = steady(craft, NEVER_FOUR)[1]
        for k in [0, -1, 401, True, False, 10 ** 199] + [one for one in support.junk() if type(one) is not int]:
            with self.assertRaises(NoNumber):
                steady_by(craft, NEVER_FOUR, k)
            with self.assertRaises(NoNumber):
                is_choice_by(craft, NEVER_FOUR, k, choice)
            with self.assertRaises(NoNumber):
                machine_by(craft, NEVER_FOUR, k, None)
            with self.assertRaises(NoNumber):
                steady_by(crowded(), CROWDING, k)
        for k in (1, 5, 400):
            self.assertIs(is_choice_by(craft, NEVER_FOUR, k, steady_by(craft, NEVER_FOUR, k)), True)

    def test_too_many(self):
        self.assertEqual(len(steady_by(staying(300), NEVER_399, 1)), 300 + 300 * 3)
        for craft, wishes in [(staying(301), NEVER_399), (staying(300, odd=((390,),)), NEVER_399),
                              (crowded(), CROWDING)]:
            for call in (lambda: steady_by(craft, wishes, 1), lambda: steady_by(craft, wishes, 400),
                         lambda: least_boxes(craft, wishes)):
                with self.assertRaises(TooMany) as caught:
                    call()
                self.assertEqual(caught.exception.most, 3000)

    def test_where_a_start_breaks(self):
        craft = staying(301, odd=((399,),))
        self.assertIsNone(steady_by(craft, NEVER_399, 1))
        self.assertIsNone(least_boxes(craft, NEVER_399))
        self.assertIs(is_choice_by(craft, NEVER_399, 1, {}), False)
        with self.assertRaises(NoChoice):
            machine_by(craft, NEVER_399, 1, {})

    def test_told_again_alike(self):
        craft = falling()
        found = steady_by(craft, NEVER_FOUR, 1)
        before = dict(found)
        found.clear()
        self.assertEqual(steady_by(craft, NEVER_FOUR, 1), before)


class IsChoiceByTest(unittest.TestCase):
    def test_with_one_thing_otherwise(self):
        told = {True: 0, False: 0}
        for chance, play, nodes in coarse_games(743, 60):
            choice = steady_by(play.craft, play.wishes, play.k)
            if choice is None:
                continue
            things = near_choices(chance, play, choice)
            things += [{**choice, node: chance.randrange(len(play.craft.levers))} for node in nodes]
            for thing in things:
                right = play.is_choice(thing)
                self.assertIs(is_choice_by(play.craft, play.wishes, play.k, thing), right)
                told[right] += 1
        self.assertGreater(min(told.values()), 150)

    def test_as_many_boxes_as_places(self):
        many = 0
        for chance, play, _ in some_games(744, 60):
            craft, wishes = play.craft, play.wishes
            places = len(play.slow.places)
            word, choice = steady(craft, wishes)
            for k in (places, 400):
                coarse = steady_by(craft, wishes, k)
                self.assertIs(coarse is None, word == "barred")
                if coarse is not None:
                    self.assertIs(is_choice(craft, wishes, coarse), True)
                    self.assertIs(is_choice_by(craft, wishes, k, choice), True)
                    many += 1
        self.assertGreater(many, 40)

    def test_judges_any_object(self):
        for thing in support.junk():
            self.assertIs(is_choice_by(falling(), NEVER_FOUR, 1, thing), False)


class LeastBoxesTest(unittest.TestCase):
    def test_against_each_k(self):
        told = {}
        for _, play, _ in some_games(745, 200):
            craft, wishes = play.craft, play.wishes
            right = next((k for k in range(1, len(play.slow.places) + 1)
                          if steady_by(craft, wishes, k) is not None), None)
            self.assertEqual(least_boxes(craft, wishes), right)
            self.assertIs(right is None, steady(craft, wishes)[0] == "barred")
            told[right] = told.get(right, 0) + 1
        self.assertGreater(min(told[None], told[1]), 20)
        self.assertGreater(sum(told.values()) - told[None] - told[1], 1)

    def test_where_few_coarse_nodes_come(self):
        # Slanted lots are many, boxes about them are few: what is asked for is told, whatever steady raises.
        formulas = (("plus", X, ("minus", Y, ("number", 3))), ("plus", Y, ("in", 2)))
        plant = Plant(Format(10, 0, 0), "near", ((0, 6), (0, 6)), ((None, formulas),), ((0, 0), (-1, 1)))
        starts = tuple(support.rows(plant.box))
        craft = Craft(plant, ((-1,), (1,)), ((X, 2, 0), (Y, 0, 3)), (1, 1, False), starts)
        for call in (steady, lambda craft, wishes: steady_by(craft, wishes, 2)):
            with self.assertRaises(TooMany):
                call(craft, ())
        self.assertIsNotNone(steady_by(craft, (), 1))
        self.assertEqual(least_boxes(craft, ()), 1)
        self.assertIsNone(least_boxes(falling(levers=((0,),)), NEVER_FOUR))


class MachineByTest(unittest.TestCase):
    def test_against_the_words(self):
        many = 0
        for chance, play, nodes in coarse_games(746, 100):
            craft, wishes = play.craft, play.wishes
            choice = steady_by(craft, wishes, play.k)
            if choice is None:
                continue
            machine = machine_by(craft, wishes, play.k, choice)
            self.assertEqual(machine, test_machines.MachineOfTest.right(self, play, choice))
            self.assertIs(is_machine(craft, machine), True)
            for _ in range(8):
                run = steered_run(chance, play.slow, machine, 5)
                self.assertIs(is_run(craft, run), True)
                self.assertIsNone(breaks_at(craft, wishes, run))
                many += 1
        self.assertGreater(many, 300)

    def test_exactly_known(self):
        craft = falling()
        choice = steady(craft, NEVER_FOUR)[1]
        machine = machine_of(craft, NEVER_FOUR, choice)
        self.assertEqual(machine_by(craft, NEVER_FOUR, 400, choice), machine)
        self.assertEqual(machine_by(craft, NEVER_FOUR, 1, choice), machine)

    def test_no_choice(self):
        craft = far_apart()
        exact = steady(craft, PIT)[1]
        with self.assertRaises(NoChoice):
            machine_by(craft, PIT, 1, exact)
        self.assertEqual(machine_by(craft, PIT, 2, exact), machine_of(craft, PIT, exact))
        for thing in [{}] + support.junk():
            with self.assertRaises(NoChoice):
                machine_by(craft, PIT, 2, thing)


if __name__ == "__main__":
    unittest.main()
