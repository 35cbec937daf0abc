"""Promises 5.1 to 5.6: nodes, choices and spoilers, who is beaten, and how long wishes last."""

import random
import unittest

from steadycraft.crafts import Craft
from steadycraft.dyads import Format
from steadycraft.errors import BadCraft, BadTelling, NoIndex, NoLever, NoNode, NoNumber, NoSpoiler, TooMany
from steadycraft.games import (beaten, is_choice, is_spoiler, lasts, least_k, least_rank, longest, rank_of, steady,
                               surest)
from steadycraft.machines import is_machine, machine_of
from steadycraft.nodes import children, roots
from steadycraft.plants import Plant
from steadycraft.runs import is_run, places_of
from steadycraft.wishes import breaks_at, is_breaking
from tests import support
from tests.playing import Play, is_node, plays

X, Y = ("in", 0), ("in", 1)
NEVER_FOUR = (("never", (((4, 4),),)),)


def line(low, high, formula, pushes=(0, 0), modes=()):
    plant = Plant(Format(10, 0, 0), "near", ((low, high),), modes + ((None, (formula,)),), (pushes,))
    return plant


def staying(starts, lengths=(1, 3, True), levers=((0,), (1,), (2,)), odd=()):
    """Places that never change, but for 390, from which 399 comes: a node for each start, length and row."""
    modes = ((((390, 390),),), (("number", 399),))
    plant = line(0, 399, X, (0, 0), (modes,))
    lot = tuple((place,) for place in range(starts)) + odd
    return Craft(plant, levers, ((X, 0, 0),), lengths, lot)


NEVER_399 = (("never", (((399, 399),),)),)


def crowded(lengths=(6, 6, False), starts=None):
    """What can be known here is soon more than 3000 standings."""
    plant = Plant(Format(10, 0, 0), "near", ((0, 19), (0, 19)), ((None, (X, Y)),), ((-4, 4), (-4, 4)))
    lot = tuple(support.rows(plant.box)) if starts is None else starts
    return Craft(plant, ((0,), (1,)), ((("number", 0), 0, 0),), lengths, lot)


CROWDING = (("again", (((0, 0), (0, 19)),), 30), ("again", (((0, 19), (0, 0)),), 30))


def falling(levers=((0,), (-1,)), starts=((2,),), lengths=(1, 1, False)):
    """The craft of the document's examples."""
    return Craft(support.small_plant(), levers, ((X, 0, 0),), lengths, starts)


def some_games(seed, many, **told):
    chance = random.Random(seed)
    for play, nodes in plays(chance, many, most_places=8, **told):
        yield chance, play, nodes


def truths(thing):
    """The same with True in the place of each 1, one by one."""
    return [support.replaced(thing, path, True) for path in support.paths(thing)
            if type(support.item_at(thing, path)) is int and support.item_at(thing, path) == 1]


class NodesTest(unittest.TestCase):
    def test_roots_and_children(self):
        for chance, play, nodes in some_games(501, 60):
            craft, wishes = play.craft, play.wishes
            self.assertEqual(roots(craft, wishes), play.roots())
            for node in chance.sample(sorted(nodes), min(8, len(nodes))):
                for row in range(len(craft.levers)):
                    found = children(craft, wishes, node, row)
                    self.assertIsInstance(found, list)
                    self.assertEqual(found, play.children(node, row))
                    self.assertTrue(found or play.is_lost(node))

    def test_each_once_and_ascending(self):
        craft = Craft(line(0, 9, X, (-1, 1)), ((0,),), ((("number", 3), 1, 2),), (1, 2, True), ((3,), (5,)))
        found = roots(craft, ())
        self.assertEqual(found, [(0, (0,), 0, (((3,), ()), ((5,), ()))), (0, (1,), 0, (((3,), ()), ((5,), ())))])
        behind = children(craft, (), found[1], 0)
        self.assertEqual([node[1:3] for node in behind], [((0,), 1), ((0,), 2), ((2,), 1), ((2,), 2)])

    def test_lost_nodes_and_none(self):
        craft = falling(lengths=(1, 2, False))
        lost = (0, (0,), None, (((3,), (0,)),))
        self.assertEqual(children(craft, NEVER_FOUR, lost, 1), [(1, (0,), None, (((3,), (0,)),))])
        sure = Craft(Plant(Format(6, -4, 4), "near", ((0, 4),), ((None, (("number", 4),)),), ((0, 0),)),
                     ((0,),), ((X, 0, 0),), (1, 1, False), ((2,),))
        self.assertEqual(children(sure, NEVER_FOUR, roots(sure, NEVER_FOUR)[0], 0), [])
        self.assertEqual(roots(falling(starts=((4,),)), NEVER_FOUR), [])

    def test_errors(self):
        craft = falling()
        node = roots(craft, NEVER_FOUR)[0]
        wrong = [node[:3] + ((),), node[:3], list(node), (2,) + node[1:], roots(craft, ())[0]]
        for thing in wrong + support.junk() + truths((1,) + node[1:]):
            with self.assertRaises(NoNode):
                children(craft, NEVER_FOUR, thing, None)
            with self.assertRaises(NoNode):
                surest(craft, NEVER_FOUR, thing)
        for row in [2, -1] + [one for one in support.junk() if type(one) is not int]:
            with self.assertRaises(NoLever):
                children(craft, NEVER_FOUR, node, row)
        with self.assertRaises(TooMany) as caught:
            children(crowded(), CROWDING, roots(crowded(), CROWDING)[0], 1)
        self.assertEqual(caught.exception.most, 3000)
        with self.assertRaises(NoLever):
            children(crowded(), CROWDING, roots(crowded(), CROWDING)[0], 2)

    def test_lists_are_the_callers_own(self):
        craft = falling()
        found = roots(craft, NEVER_FOUR)
        behind = children(craft, NEVER_FOUR, found[0], 1)
        told = list(found), list(behind)
        found.clear()
        behind.append(None)
        self.assertEqual((roots(craft, NEVER_FOUR), children(craft, NEVER_FOUR, told[0][0], 1)), told)


def near_choices(chance, play, choice):
    """Choices with one thing otherwise."""
    found = [dict(choice), {}, list(choice), tuple(choice.items()), None, {None: 0}]
    keys = list(choice)
    for key in chance.sample(keys, min(4, len(keys))):
        found.append({node: row for node, row in choice.items() if node != key})
        for row in [choice[key] + 1, choice[key] - 1, -1, None, str(choice[key]), bool(choice[key]), (0,)]:
            found.append({**choice, key: row})
        for other in support.changed(key, chance.random(), 3) + truths(key)[:2]:
            try:
                found.append({**{node: row for node, row in choice.items() if node != key}, other: choice[key]})
                found.append({**choice, other: choice[key]})
            except TypeError:
                pass
    for odd in (None, 1, "a", (), (1, 2), keys[0][:3], keys[0][:3] + ((),)):
        found.append({**choice, odd: 0})
    return found


class ChoiceTest(unittest.TestCase):
    def test_with_one_thing_otherwise(self):
        told = {True: 0, False: 0}
        for chance, play, nodes in some_games(502, 60):
            word, choice = steady(play.craft, play.wishes)
            if word != "made":
                continue
            self.assertTrue(play.is_choice(choice))
            extra = {}
            for node in nodes:
                extra = {**choice, node: chance.randrange(len(play.craft.levers))}
                right = play.is_choice(extra)
                self.assertIs(is_choice(play.craft, play.wishes, extra), right)
                told[right] += 1
            for thing in near_choices(chance, play, choice):
                right = play.is_choice(thing)
                self.assertIs(is_choice(play.craft, play.wishes, thing), right)
                told[right] += 1
        self.assertGreater(min(told.values()), 200)

    def test_lost_keys_and_starts_that_break(self):
        craft = falling()
        choice = steady(craft, NEVER_FOUR)[1]
        self.assertIs(is_choice(craft, NEVER_FOUR, choice), True)
        lost = (0, (0,), None, (((3,), (0,)),))
        self.assertIs(is_choice(craft, NEVER_FOUR, {**choice, lost: 1}), False)
        more = (1, (0,), None, (((1,), (0,)),))
        child = (1, (0,), None, (((0,), (0,)),))
        self.assertIs(is_choice(craft, NEVER_FOUR, {**choice, more: 1}), False)
        self.assertIs(is_choice(craft, NEVER_FOUR, {**choice, more: 1, child: 1}), True)
        broken = falling(starts=((2,), (4,)))
        self.assertIs(is_choice(broken, NEVER_FOUR, choice), False)
        self.assertIs(is_choice(falling(starts=((4,),)), NEVER_FOUR, {}), False)

    def test_judges_any_object(self):
        for thing in support.junk():
            self.assertIs(is_choice(falling(), NEVER_FOUR, thing), False)
            self.assertIs(is_spoiler(falling(), NEVER_FOUR, thing), False)

    def test_keys_with_more_standings_than_led_tells(self):
        craft = crowded()
        node = roots(craft, CROWDING)[0]
        self.assertIs(is_choice(craft, CROWDING, {node: 0}), False)
        self.assertIs(is_spoiler(craft, CROWDING, ((0,), {node: (1, ((0,), (0,)))})), False)


def near_spoilers(chance, play, spoiler):
    reading, ranked = spoiler
    found = [(reading, dict(ranked)), [reading, ranked], (reading, ranked, None), (reading,), (reading, {}),
             (None, ranked), (reading + (0,), ranked), ("start", ranked), ("start", reading), (reading, list(ranked))]
    found += [(other, ranked) for other in support.changed(reading, chance.random(), 5) + truths(reading)]
    keys = list(ranked)
    for key in chance.sample(keys, min(4, len(keys))):
        rank, answers = ranked[key]
        found.append((reading, {node: pair for node, pair in ranked.items() if node != key}))
        for pair in [(rank + 1, answers), (rank - 1, answers), (bool(rank), answers), (rank, None), (rank, ()),
                     (0, None), (0, answers), (rank, (reading,) * len(play.craft.levers)), [rank, answers], (rank,),
                     None, (1, (reading,) * len(play.craft.levers)), (10 ** 199, answers), (str(rank), answers)]:
            found.append((reading, {**ranked, key: pair}))
        for other in support.changed((rank, answers), chance.random(), 6) + truths((rank, answers)):
            found.append((reading, {**ranked, key: other}))
        for other in support.changed(key, chance.random(), 3) + truths(key)[:2]:
            try:
                found.append((reading, {**{node: pair for node, pair in ranked.items() if node != key},
                                        other: ranked[key]}))
                found.append((reading, {**ranked, other: ranked[key]}))
            except TypeError:
                pass
    for odd in (None, 1, "a", (), keys[0][:3]):
        found.append((reading, {**ranked, odd: (0, None)}))
    return found


class SpoilerTest(unittest.TestCase):
    def test_with_one_thing_otherwise(self):
        told = {True: 0, False: 0}
        for chance, play, nodes in some_games(503, 180):
            word, spoiler = steady(play.craft, play.wishes)
            if word != "barred" or spoiler[0] == "start":
                continue
            for thing in near_spoilers(chance, play, spoiler):
                right = play.is_spoiler(thing)
                self.assertIs(is_spoiler(play.craft, play.wishes, thing), right)
                told[right] += 1
                if right:
                    root = play.behind(play.first())[thing[0]]
                    self.assertEqual(rank_of(play.craft, play.wishes, thing), thing[1][root][0])
                else:
                    with self.assertRaises(NoSpoiler):
                        rank_of(play.craft, play.wishes, thing)
        self.assertGreater(min(told.values()), 60)

    def test_all_ranked_nodes_are_a_spoiler_too(self):
        many = 0
        for chance, play, nodes in some_games(504, 120):
            ranks = play.ranks(nodes)
            firsts = [reading for reading, node in play.behind(play.first()).items() if node in ranks]
            if not firsts:
                continue
            ranked = {}
            for node, rank in ranks.items():
                answers = None
                if rank > 0:
                    answers = tuple(next(reading for reading, child in play.children_by(node, row).items()
                                         if child in ranks and ranks[child] < rank)
                                    for row in range(len(play.craft.levers)))
                ranked[node] = (2 * rank, answers)
            spoiler = (firsts[0], ranked)
            self.assertIs(is_spoiler(play.craft, play.wishes, spoiler), True)
            root = play.behind(play.first())[firsts[0]]
            self.assertEqual(rank_of(play.craft, play.wishes, spoiler), 2 * ranks[root])
            many += 1
        self.assertGreater(many, 20)

    def test_starts(self):
        craft = falling(starts=((1,), (2,), (4,)))
        for thing, right in [(("start", (4,)), True), (("start", (2,)), False), (("start", (5,)), False),
                             (("start", [4]), False), (("start", 4), False), (("starts", (4,)), False),
                             (["start", (4,)], False), (("start", (4,), 0), False), (("start",), False),
                             ((b"start", (4,)), False), (("start", None), False)]:
            self.assertIs(is_spoiler(craft, NEVER_FOUR, thing), right)
        self.assertEqual(rank_of(craft, NEVER_FOUR, ("start", (4,))), 0)
        one = falling(starts=((1,),))
        self.assertIs(is_spoiler(one, (("never", (((1, 1),),)),), ("start", (1,))), True)
        self.assertIs(is_spoiler(one, (("never", (((1, 1),),)),), ("start", (True,))), False)

    def test_beside_a_start_that_breaks(self):
        craft = falling(levers=((0,),), starts=((2,), (4,)))
        by_two = (0, (0,), None, (((2,), (0,)),))
        by_three = (0, (0,), None, (((3,), (0,)),))
        self.assertIs(is_spoiler(craft, NEVER_FOUR, ((2,), {by_two: (1, ((3,),)), by_three: (0, None)})), True)
        self.assertIs(is_spoiler(craft, NEVER_FOUR, ((4,), {by_two: (1, ((3,),)), by_three: (0, None)})), False)
        self.assertIs(is_spoiler(craft, NEVER_FOUR, ((2,), {by_two: (2, ((3,),)), by_three: (1, ((3,),))})), False)
        self.assertIs(is_spoiler(craft, NEVER_FOUR, ((2,), {by_two: (1, ((2,),)), by_three: (0, None)})), False)
        self.assertIs(is_spoiler(craft, NEVER_FOUR, ((2,), {by_two: (1, ((4,),)), by_three: (0, None)})), False)

    def test_errors(self):
        for thing in support.junk():
            with self.assertRaises(NoSpoiler):
                rank_of(falling(), NEVER_FOUR, thing)
            with self.assertRaises(NoSpoiler):
                beaten(falling(), NEVER_FOUR, thing, None)


class SteadyTest(unittest.TestCase):
    def test_against_rounds_over_all_nodes(self):
        told = {}
        for _, play, nodes in some_games(505, 250):
            ranks = play.ranks(nodes)
            least = min((ranks[root] for root in play.roots() if root in ranks), default=None)
            least = 0 if play.broken_first() else least
            self.assertEqual(least_rank(play.craft, play.wishes), least)
            word, thing = steady(play.craft, play.wishes)
            if least is None:
                self.assertEqual(word, "made")
                self.assertTrue(play.is_choice(thing))
                self.assertIs(is_choice(play.craft, play.wishes, thing), True)
            else:
                self.assertEqual(word, "barred")
                self.assertTrue(play.is_spoiler(thing))
                self.assertIs(is_spoiler(play.craft, play.wishes, thing), True)
                # No smaller number of periods would do, whatever spoiler is told.
                self.assertGreaterEqual(rank_of(play.craft, play.wishes, thing), least)
            told[least] = told.get(least, 0) + 1
        self.assertGreater(told[None], 80)
        self.assertGreater(told[0], 5)
        self.assertGreater(told[1], 15)
        self.assertGreater(told[2], 5)

    def test_examples(self):
        craft = falling()
        self.assertEqual(steady(craft, NEVER_FOUR)[0], "made")
        self.assertIsNone(least_rank(craft, NEVER_FOUR))
        self.assertEqual(least_rank(falling(starts=((3,),)), NEVER_FOUR), 0)
        self.assertEqual(least_rank(falling(levers=((0,),)), NEVER_FOUR), 1)

    def test_starts_that_break_at_once(self):
        for starts in [((4,),), ((1,), (4,)), ((2,), (3,), (4,))]:
            craft = falling(starts=starts)
            self.assertEqual(steady(craft, NEVER_FOUR), ("barred", ("start", (4,))))
            self.assertEqual(least_rank(craft, NEVER_FOUR), 0)

    def test_no_more_than_3000_nodes(self):
        self.assertEqual(steady(staying(300), NEVER_399)[0], "made")
        self.assertEqual(len(steady(staying(300), NEVER_399)[1]), 300 + 300 * 3)
        self.assertIsNone(least_rank(staying(300), NEVER_399))
        # A lost root more: 3001 nodes, and 2991 where ten others are left out.
        self.assertEqual(steady(staying(299, odd=((390,),)), NEVER_399)[0], "barred")
        self.assertEqual(least_rank(staying(299, odd=((390,),)), NEVER_399), 0)
        for craft in (staying(300, odd=((390,),)), staying(301)):
            for call in (steady, least_rank, longest, lambda craft, wishes: lasts(craft, wishes, 0),
                         lambda craft, wishes: lasts(craft, wishes, 5)):
                with self.assertRaises(TooMany) as caught:
                    call(craft, NEVER_399)
                self.assertEqual(caught.exception.most, 3000)

    def test_as_led_raises_it(self):
        for call in (steady, least_rank):
            with self.assertRaises(TooMany) as caught:
                call(crowded(), CROWDING)
            self.assertEqual(caught.exception.most, 3000)

    def test_just_3000_standings(self):
        # Behind seven periods of one or two ticks eight counts can be at each place; then the wish breaks.
        wishes = (("again", (), 15),)
        for starts in (375, 376):
            craft = Craft(line(0, 399, X), ((0,),), ((("number", 0), 0, 0),), (1, 2, False),
                          tuple((place,) for place in range(starts)))
            if starts == 375:
                self.assertEqual(least_rank(craft, wishes), 7)
                word, (_, ranked) = steady(craft, wishes)
                self.assertEqual((word, max(len(node[3]) for node in ranked)), ("barred", 3000))
            else:
                for call in (steady, least_rank):
                    with self.assertRaises(TooMany) as caught:
                        call(craft, wishes)
                    self.assertEqual(caught.exception.most, 3000)

    def test_no_bounds_where_a_start_breaks(self):
        craft = staying(300, odd=((390,), (399,)))
        self.assertEqual(steady(craft, NEVER_399), ("barred", ("start", (399,))))
        self.assertEqual(least_rank(craft, NEVER_399), 0)
        self.assertIs(lasts(craft, NEVER_399, 0), True)
        self.assertIs(lasts(craft, NEVER_399, 1), False)
        never = (("never", (((0, 0), (0, 0)),)),)
        self.assertEqual(steady(crowded(), never + CROWDING), ("barred", ("start", (0, 0))))

    def test_told_again_alike(self):
        for craft in (falling(), falling(levers=((0,),))):
            told = steady(craft, NEVER_FOUR)
            dicts = [told[1] if told[0] == "made" else told[1][1]]
            before = [dict(one) for one in dicts]
            for one in dicts:
                one.clear()
            again = steady(craft, NEVER_FOUR)
            self.assertEqual([again[1] if again[0] == "made" else again[1][1]], before)
            many, choice, spoiler = longest(craft, NEVER_FOUR)
            kept = dict(choice)
            choice.clear()
            self.assertEqual(longest(craft, NEVER_FOUR), (many, kept, spoiler))

    def test_the_machine_of_a_choice_breaks_no_wish(self):
        many = 0
        for chance, play, _ in some_games(506, 60):
            word, choice = steady(play.craft, play.wishes)
            if word == "made":
                machine = machine_of(play.craft, play.wishes, choice)
                for _ in range(10):
                    run = steered_run(chance, play.slow, machine, 6)
                    self.assertIs(is_run(play.craft, run), True)
                    self.assertIsNone(breaks_at(play.craft, play.wishes, run))
                    many += 1
        self.assertGreater(many, 200)


def steered_run(chance, slow, machine, many):
    """A run in which a machine chooses; it must have all answers."""
    craft = slow.craft
    place = start = chance.choice(craft.starts)
    lacks, length, row, point, periods = (0,) * len(craft.sensors), 0, 0, 0, []
    for _ in range(many):
        reading = chance.choice(slow.readings(place, lacks, length))
        lacks = support.lacks_behind(lacks, reading)
        chosen, point = machine[point][reading]
        length = chance.randint(craft.lengths[0], craft.lengths[1])
        pushes = tuple(chance.choice(slow.pushes) for _ in range(length))
        for push in pushes:
            place = slow.goals[place, row, push]
        periods.append((reading, chosen, pushes))
        row = chosen
    return (start, tuple(periods))


class Telling:
    """Rows that hang on readings alone, and with what it was called."""

    def __init__(self, seed, rows):
        self.seed, self.rows, self.asked = seed, rows, []

    def __call__(self, *readings):
        assert len(readings) == 1
        self.asked.append(readings[0])
        return self.told(readings[0])

    def told(self, readings):
        return random.Random(repr((self.seed, readings))).randrange(self.rows)


class BeatenTest(unittest.TestCase):
    def test_runs_that_break(self):
        periods_told = {}
        for chance, play, _ in some_games(507, 260):
            word, spoiler = steady(play.craft, play.wishes)
            if word != "barred":
                continue
            for seed in range(4):
                telling = Telling(seed, len(play.craft.levers))
                run = beaten(play.craft, play.wishes, spoiler, telling)
                self.breaks_at_its_last_place(play, spoiler, telling, run)
                self.assertEqual(beaten(play.craft, play.wishes, spoiler, telling), run)
                periods_told[len(run[1])] = periods_told.get(len(run[1]), 0) + 1
        self.assertGreater(periods_told[1], 10)
        self.assertGreater(periods_told[2], 10)
        self.assertGreater(periods_told[3], 10)

    def breaks_at_its_last_place(self, play, spoiler, telling, run):
        craft, wishes = play.craft, play.wishes
        self.assertIs(is_run(craft, run), True)
        self.assertIs(is_breaking(craft, wishes, run), True)
        start, periods = run
        walked = [start] + [place for period in places_of(craft, run) for place in period[1:]]
        self.assertEqual(support.broken(wishes, walked)[0], len(walked) - 1)
        readings = tuple(reading for reading, _, _ in periods)
        self.assertEqual(telling.asked, [readings[:at + 1] for at in range(len(readings))])
        self.assertEqual([row for _, row, _ in periods], [telling.told(one) for one in telling.asked])
        self.assertLessEqual(len(periods), rank_of(craft, wishes, spoiler) + 1)
        if spoiler[0] == "start":
            self.assertEqual((start, len(periods), periods[0][2]), (spoiler[1], 1, ()))
            return
        node = play.behind(play.first())[readings[0]]
        for at, (reading, row, _) in enumerate(periods):
            rank, answers = spoiler[1][node]
            if at < len(periods) - 1:
                self.assertEqual(answers[row], readings[at + 1])
                node = play.children_by(node, row)[answers[row]]
            else:
                self.assertEqual(rank, 0)

    def test_a_start(self):
        craft = Craft(support.small_plant(), ((0,), (-1,)), ((X, 1, 1),), (1, 2, True), ((2,), (4,)))
        telling = Telling(0, 2)
        start, periods = beaten(craft, NEVER_FOUR, ("start", (4,)), telling)
        self.assertEqual((start, len(periods)), ((4,), 1))
        reading, row, pushes = periods[0]
        self.assertIn(reading, [(None, 0), (3, 0), (4, 0), (5, 0)])
        self.assertEqual((telling.asked, row, pushes), ([(reading,)], telling.told((reading,)), ()))

    def test_bad_tellings(self):
        craft = falling(levers=((0,), (1,)))
        spoiler = steady(craft, NEVER_FOUR)[1]
        self.assertEqual(rank_of(craft, NEVER_FOUR, spoiler), 1)
        for odd in (True, False, 2, -1, None, "0", (0,), [0], b"0", 10 ** 199):
            with self.assertRaises(BadTelling) as caught:
                beaten(craft, NEVER_FOUR, spoiler, lambda readings: odd)
            self.assertEqual(caught.exception.readings, ((2,),))
            with self.assertRaises(BadTelling) as caught:
                beaten(craft, NEVER_FOUR, spoiler, lambda readings: odd if len(readings) == 2 else 0)
            self.assertEqual(caught.exception.readings, ((2,), (3,)))
            with self.assertRaises(BadTelling) as caught:
                beaten(falling(starts=((4,),)), NEVER_FOUR, ("start", (4,)), lambda readings: odd)
            self.assertEqual(caught.exception.readings, ((4,),))

    def test_errors_go_on(self):
        craft = falling(levers=((0,),))
        spoiler = steady(craft, NEVER_FOUR)[1]
        for error in (KeyError("no"), ZeroDivisionError(), TooMany(7), StopIteration(), NoSpoiler()):
            def telling(readings):
                raise error
            with self.assertRaises(type(error)) as caught:
                beaten(craft, NEVER_FOUR, spoiler, telling)
            self.assertIs(caught.exception, error)

    def test_no_spoiler_ahead(self):
        asked = []
        for thing in [("start", (2,)), ((2,), {}), None]:
            with self.assertRaises(NoSpoiler):
                beaten(falling(), NEVER_FOUR, thing, asked.append)
        self.assertEqual(asked, [])


class LongestTest(unittest.TestCase):
    def test_against_steady(self):
        told = {}
        for _, play, _ in some_games(508, 120):
            craft, wishes = play.craft, play.wishes
            many, choice, spoiler = longest(craft, wishes)
            words = [steady(craft, wishes[:at])[0] for at in range(len(wishes) + 1)]
            self.assertEqual(many, words.index("barred") - 1 if "barred" in words else len(wishes))
            self.assertIs(is_choice(craft, wishes[:many], choice), True)
            if many == len(wishes):
                self.assertIsNone(spoiler)
            else:
                self.assertIs(is_spoiler(craft, wishes[:many + 1], spoiler), True)
            told[many, len(wishes)] = told.get((many, len(wishes)), 0) + 1
        self.assertGreater(sum(1 for many, length in told if many < length), 3)
        self.assertGreater(sum(1 for many, length in told if many == length), 3)

    def test_lists_of_none_to_four(self):
        craft = falling()
        wishes = (("never", ()), NEVER_FOUR[0], ("within", (((1, 1),),), 30), ("again", (((2, 3),),), 2))
        for many in range(5):
            found = longest(craft, wishes[:many])
            self.assertEqual((found[0], found[2] is None), (min(many, 2), many <= 2))
        self.assertEqual(longest(falling(starts=((4,),)), NEVER_FOUR)[2], ("start", (4,)))

    def test_too_many_from_no_wish_on(self):
        # Where all but few places are barred fewer nodes come than without the wish.
        craft = staying(300, odd=((390,),))
        lost = (("never", (((0, 389),),)),)
        self.assertEqual(steady(craft, lost), ("barred", ("start", (0,))))
        with self.assertRaises(TooMany):
            longest(craft, lost)
        # A list behind one that is barred is not asked.
        plant = Plant(Format(10, 0, 0), "near", ((0, 399),), ((None, (X,)),), ((-1, 1),))
        few = Craft(plant, ((0,),), ((X, 0, 0),), (1, 1, False), ((0,),))
        wishes = (("never", (((1, 1),),)), ("again", (), 30), ("within", (), 30))
        self.assertEqual(longest(few, wishes)[0], 0)


class LeastKTest(unittest.TestCase):
    def test_against_steady(self):
        told = {}
        for chance, play, _ in some_games(509, 120):
            craft, wishes = play.craft, play.wishes
            for index, wish in enumerate(wishes):
                if wish[0] in ("never", "ahead"):
                    with self.assertRaises(NoIndex):
                        least_k(craft, wishes, index)
                    continue
                right = self.by_steady(craft, wishes, index)
                told[right] = told.get(right, 0) + 1
                if right == "too many":
                    with self.assertRaises(TooMany):
                        least_k(craft, wishes, index)
                else:
                    self.assertEqual(least_k(craft, wishes, index), right)
        self.assertGreater(told[None], 3)
        self.assertGreater(told[1], 3)
        self.assertGreater(sum(told.values()) - told[1] - told[None], 3)

    def by_steady(self, craft, wishes, index):
        try:
            for k in range(1, 31):
                wish = wishes[index][:-1] + (k,)
                if steady(craft, wishes[:index] + (wish,) + wishes[index + 1:])[0] == "made":
                    return k
        except TooMany:
            return "too many"
        return None

    def test_one_thirty_and_none(self):
        plant = line(0, 40, ("plus", X, ("number", 1)))
        craft = Craft(plant, ((0,),), ((X, 0, 0),), (1, 1, False), ((0,),))
        for goal, right in [(0, 1), (1, 1), (2, 2), (29, 29), (30, 30), (31, None), (40, None)]:
            wishes = (("never", ()), ("within", (((goal, goal),),), 7))
            self.assertEqual(least_k(craft, wishes, 1), right)

    def test_no_index(self):
        wishes = NEVER_FOUR + (("again", (((0, 4),),), 2), ("ahead", (), ()))
        craft = falling()
        self.assertEqual(least_k(craft, wishes, 1), 1)
        for index in [0, 2, 3, -1, -2, True, 10 ** 199] + [one for one in support.junk() if type(one) is not int]:
            with self.assertRaises(NoIndex):
                least_k(craft, wishes, index)
        with self.assertRaises(NoIndex):
            least_k(craft, (), 0)

    def test_too_many_up_to_the_one_told(self):
        plant = line(0, 199, ("plus", X, Y))
        starts = tuple((place,) for place in range(100))
        craft = Craft(plant, ((0,), (100,)), ((X, 0, 0),), (1, 1, False), starts)
        wishes = (("again", (((0, 99),),), 30),)
        with self.assertRaises(TooMany):
            steady(craft, wishes)
        self.assertEqual(least_k(craft, wishes, 0), 1)
        # No k is enough for the other wish: they are asked up to the first with too many nodes.
        more = wishes + (("within", (), 30),)
        few = Craft(plant, ((0,), (100,)), ((X, 0, 0),), (1, 1, False), starts[:15])
        self.assertEqual(steady(few, (("again", (((0, 99),),), 1),) + more[1:])[0], "barred")
        with self.assertRaises(TooMany) as caught:
            least_k(few, more, 0)
        self.assertEqual(caught.exception.most, 3000)


class SurestTest(unittest.TestCase):
    def right(self, play, nodes, node):
        ranks = play.ranks(nodes)
        if node in ranks and ranks[node] == 0:
            return []
        return [row for row in range(len(play.craft.levers))
                if not any(child in ranks for child in nodes[node][row])]

    def test_against_rounds(self):
        lengths, lost = {}, 0
        for chance, play, nodes in some_games(510, 100):
            for node in chance.sample(sorted(nodes), min(10, len(nodes))):
                found = surest(play.craft, play.wishes, node)
                self.assertEqual(found, self.right(play, nodes, node))
                lengths[len(found)] = lengths.get(len(found), 0) + 1
                if nodes[node] is None:
                    self.assertEqual(found, [])
                    lost += 1
        self.assertGreater(min(lengths[0], lengths[1], lengths[2], lost), 30)

    def test_nodes_that_do_not_come(self):
        craft = falling(levers=((0,), (-1,), (-2,)))
        node = (2, (0,), None, (((4,), (0,)),))
        self.assertEqual(surest(craft, NEVER_FOUR, node), [1, 2])
        self.assertEqual(surest(craft, NEVER_FOUR, (1, (0,), None, (((4,), (0,)),))), [])
        self.assertEqual(surest(craft, NEVER_FOUR, (2, (0,), None, (((0,), (0,)), ((3,), (0,))))), [0, 1, 2])

    def test_where_a_start_breaks(self):
        craft = falling(starts=((2,), (4,)))
        self.assertEqual(surest(craft, NEVER_FOUR, (0, (0,), None, (((2,), (0,)),))), [1])
        self.assertEqual(surest(craft, NEVER_FOUR, (0, (0,), None, (((3,), (0,)),))), [])

    def test_too_many(self):
        craft, wishes = crowded(), CROWDING
        with self.assertRaises(TooMany) as caught:
            surest(craft, wishes, roots(craft, wishes)[0])
        self.assertEqual(caught.exception.most, 3000)
        plant = Plant(Format(10, 0, 0), "near", ((0, 399),), ((None, (X,)),), ((-1, 1),))
        many = Craft(plant, tuple((item,) for item in range(3)), ((X, 0, 0),), (1, 3, True), ((0,),))
        with self.assertRaises(TooMany):
            surest(many, (), roots(many, ())[0])
        # What a lost node leads to does not come.
        lost = (("never", (((1, 1),),)),)
        self.assertEqual(surest(many, lost, roots(many, lost)[0]), [])
        # No bound is named where a start breaks at once.
        broken = Craft(plant, ((0,), (1,), (2,)), ((X, 0, 0),), (1, 3, True), ((0,), (399,)))
        self.assertEqual(surest(broken, NEVER_399, roots(broken, NEVER_399)[0]), [])


class LastsTest(unittest.TestCase):
    def test_against_the_least_rank(self):
        told = {True: 0, False: 0}
        for _, play, _ in some_games(511, 60):
            rank = least_rank(play.craft, play.wishes)
            for many in {0, 1, 2, 3, 999, 1000} | ({rank, rank + 1} if rank is not None else set()):
                right = rank is None or rank >= many
                self.assertIs(lasts(play.craft, play.wishes, many), right)
                told[right] += 1
        self.assertGreater(min(told.values()), 40)

    def test_periods(self):
        craft = falling(levers=((0,),), starts=((0,),))
        self.assertEqual(least_rank(craft, NEVER_FOUR), 3)
        self.assertEqual([lasts(craft, NEVER_FOUR, many) for many in range(6)], [True] * 4 + [False] * 2)
        broken = falling(starts=((4,),))
        self.assertEqual([lasts(broken, NEVER_FOUR, many) for many in range(3)], [True, False, False])

    def test_no_number(self):
        for many in [-1, 1001, True, False, 10 ** 199] + [one for one in support.junk() if type(one) is not int]:
            with self.assertRaises(NoNumber):
                lasts(staying(301), NEVER_399, many)


class EasierCraftsTest(unittest.TestCase):
    """THE FACT OF EASIER CRAFTS: where there is a choice, there is one of what is easier."""

    def easier(self, chance, craft, wishes):
        plant, (low, high, told) = craft.plant, craft.lengths
        again = (plant, craft.levers, craft.sensors, craft.lengths, craft.starts)

        def otherwise(at, thing):
            return again[:at] + (thing,) + again[at + 1:]

        at = chance.randrange(len(craft.sensors))
        formula, off, lacks = craft.sensors[at]
        narrower = (formula, max(0, off - 1), max(0, lacks - 1))
        pushes = tuple((push, push) for push in [chance.randint(*span) for span in plant.pushes])
        extra = (support.some_formula(chance, len(plant.box), 0), 1, 1)
        levers = [row for row in [(3,), (-3,)] if len(craft.levers[0]) == 1 and row not in craft.levers]
        found = [otherwise(0, Plant(plant.form, plant.way, plant.box, plant.modes, pushes)),
                 otherwise(1, craft.levers + tuple(levers[:1])),
                 otherwise(2, craft.sensors[:at] + (narrower,) + craft.sensors[at + 1:]),
                 otherwise(2, craft.sensors[:at] + (extra,) + craft.sensors[at:]),
                 otherwise(3, (low, high, True)), otherwise(3, (low, chance.randint(low, high), told)),
                 otherwise(3, (high, high, told)), otherwise(4, craft.starts[1:] or craft.starts)]
        return [(one, wishes) for one in found] + [(again, wishes[:at] + wishes[at + 1:]) for at in range(len(wishes))]

    def test_easier(self):
        many = 0
        for chance, play, _ in some_games(512, 60):
            if steady(play.craft, play.wishes)[0] == "made":
                for told, wishes in self.easier(chance, play.craft, play.wishes):
                    try:
                        craft = Craft(*told)
                        word = steady(craft, wishes)[0]
                    except (BadCraft, TooMany):
                        continue
                    self.assertEqual(word, "made")
                    many += 1
        self.assertGreater(many, 200)


if __name__ == "__main__":
    unittest.main()
