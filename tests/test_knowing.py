"""Promises 3.1 to 3.3: readings, what can be known, breaks in a period."""

import random
import unittest

from steadycraft.crafts import Craft
from steadycraft.dyads import Format
from steadycraft.errors import (NoKnowledge, NoLacks, NoLength, NoLever, NoPlace, NoReading, Outside, TooMany)
from steadycraft.knowing import break_in, broken_first, first, is_break_in, is_knowledge, led, read, readings
from steadycraft.knowing import readings_at
from steadycraft.plants import Plant
from steadycraft.wishes import begun, counted
from tests import support
from tests.playing import in_order, is_knowledge as judged

X = ("in", 0)


def some_knowledge(chance, slow, wishes, many=6):
    """What could be known, with counts that places lead to."""
    craft, standings = slow.craft, {}
    for _ in range(chance.randint(0, many)):
        places = chance.choices(slow.places, k=chance.randint(1, 4))
        counts = tuple(support.count(wish, places) for wish in wishes)
        if None not in counts:
            standings[places[-1], counts] = True
    lacks = tuple(chance.randint(0, most) for _, _, most in craft.sensors)
    length = chance.randint(0, craft.lengths[1]) if craft.lengths[2] else None
    return (chance.randrange(len(craft.levers)), lacks, length, tuple(sorted(standings)))


def cases(seed, many, **told):
    chance = random.Random(seed)
    for _ in range(many):
        slow = support.Slow(support.some_craft(chance, **told))
        wishes = support.some_wishes(chance, slow.craft.plant)
        yield chance, slow, wishes


class ReadingsAtTest(unittest.TestCase):
    def test_against_all(self):
        for chance, slow, _ in cases(71, 80):
            craft = slow.craft
            for _ in range(5):
                place = chance.choice(slow.places)
                lacks = tuple(chance.randint(0, most) for _, _, most in craft.sensors)
                length = chance.randint(0, craft.lengths[1])
                found = readings_at(craft, place, lacks, length)
                self.assertIsInstance(found, list)
                self.assertEqual(found, slow.readings(place, lacks, length))
                self.assertEqual(found, in_order(found))
                if not craft.lengths[2]:
                    self.assertEqual(readings_at(craft, place, lacks, chance.choice(support.junk())), found)

    def test_ascending_with_lacks_and_told_lengths(self):
        sensors = ((X, 1, 1), (("number", 5), 0, 2))
        craft = Craft(support.small_plant(), ((0,),), sensors, (1, 3, True), ((2,),))
        self.assertEqual(readings_at(craft, (2,), (0, 1), 3),
                         [(None, None, 3), (None, 5, 3), (1, None, 3), (1, 5, 3), (2, None, 3), (2, 5, 3),
                          (3, None, 3), (3, 5, 3)])
        self.assertEqual(readings_at(craft, (0,), (1, 2), 0), [(-1, 5, 0), (0, 5, 0), (1, 5, 0)])

    def test_errors_in_order(self):
        sensors = ((X, 1, 1), (("number", 5), 0, 3))
        craft = Craft(support.small_plant(), ((0,),), sensors, (2, 3, True), ((2,),))
        for place in [(5,), (-1,), (True,), [2], (2, 2)] + [one for one in support.junk() if one != (1,)]:
            with self.assertRaises(NoPlace):
                readings_at(craft, place, None, None)
        odd = [(2, 0), (0, 4), (-1, 0), (0,), (0, 0, 0), [0, 0], (True, 0), (0, None)]
        for lacks in odd + [one for one in support.junk() if one not in [(0, 0), (1, 2)]] + [(1, True)]:
            with self.assertRaises(NoLacks):
                readings_at(craft, (2,), lacks, None)
        for length in [4, -1, None, True, (0,), "0"] + [one for one in support.junk() if type(one) is not int]:
            with self.assertRaises(NoLength):
                readings_at(craft, (2,), (1, 3), length)
        for length in range(4):
            self.assertEqual(readings_at(craft, (2,), (1, 3), length)[0], (1, 5, length))


class FirstTest(unittest.TestCase):
    def test_starts(self):
        for _, slow, wishes in cases(72, 150):
            craft = slow.craft
            counts = {place: tuple(support.count(wish, [place]) for wish in wishes) for place in craft.starts}
            kept = tuple((place, counts[place]) for place in craft.starts if None not in counts[place])
            told = (0, (0,) * len(craft.sensors), 0 if craft.lengths[2] else None, kept)
            self.assertEqual(first(craft, wishes), told)
            self.assertEqual(broken_first(craft, wishes),
                             tuple(place for place in craft.starts if None in counts[place]))

    def test_all_or_none_break(self):
        craft = support.small_craft()
        every = (("never", (((0, 4),),)),)
        self.assertEqual(first(craft, every), (0, (0,), None, ()))
        self.assertEqual(broken_first(craft, every), ((2,),))
        self.assertEqual(first(craft, ()), (0, (0,), None, (((2,), ()),)))
        self.assertEqual(broken_first(craft, ()), ())


class KnowledgeTest(unittest.TestCase):
    def test_against_the_words(self):
        told = {True: 0, False: 0}
        for at, (chance, slow, wishes) in enumerate(cases(73, 100)):
            thing = some_knowledge(chance, slow, wishes)
            for other in [thing] + support.changed(thing, at, 30, support.junk()):
                right = judged(slow.craft, len(wishes), other)
                self.assertIs(is_knowledge(slow.craft, wishes, other), right)
                told[right] += 1
                whatever = any(judged(slow.craft, many, other) for many in range(5))
                if whatever:
                    readings(slow.craft, other)
                else:
                    for asked in (readings, lambda craft, thing: read(craft, thing, None)):
                        with self.assertRaises(NoKnowledge):
                            asked(slow.craft, other)
                if not right:
                    with self.assertRaises(NoKnowledge):
                        led(slow.craft, wishes, other, None)
        self.assertGreater(min(told.values()), 150)

    def test_form_alone(self):
        craft, wishes = support.small_craft(), (("never", (((4, 4),),)),)
        for standings in [(), (((4,), (31,)),), (((0,), (-1,)), ((0,), (0,)), ((1,), (-1,)))]:
            self.assertIs(is_knowledge(craft, wishes, (1, (0,), None, standings)), True)
        for standings in [(((0,), (32,)),), (((0,), (-2,)),), (((0,), (None,)),), (((0,), (True,)),), (((0,), ()),),
                          (((0,), (0, 0)),), (((1,), (0,)), ((0,), (0,))), (((0,), (0,)), ((0,), (0,))),
                          (((0,), (1,)), ((0,), (0,))), [((0,), (0,))], (((5,), (0,)),), (((0,), [0]),)]:
            self.assertIs(is_knowledge(craft, wishes, (1, (0,), None, standings)), False)
        for row, lacks, length in [(2, (0,), None), (-1, (0,), None), (True, (0,), None), (0, (1,), None),
                                   (0, (), None), (0, (0,), 0), (0, [0], None), (0, (False,), None)]:
            self.assertIs(is_knowledge(craft, wishes, (row, lacks, length, ())), False)
        for thing in support.junk():
            self.assertIs(is_knowledge(craft, wishes, thing), False)

    def test_whatever_the_wishes(self):
        craft = support.small_craft()
        for many in range(7):
            knowledge = (0, (0,), None, (((2,), (3,) * many),))
            if many <= 4:
                self.assertEqual(readings(craft, knowledge), [(2,)])
                self.assertEqual(read(craft, knowledge, (2,)), knowledge)
            else:
                with self.assertRaises(NoKnowledge):
                    readings(craft, knowledge)
                with self.assertRaises(NoKnowledge):
                    read(craft, knowledge, (2,))
        self.assertEqual(readings(craft, (0, (0,), None, ())), [])
        for standings in [(((1,), ()), ((2,), (0,))), (((1,), (0, 0)), ((2,), (0,)))]:
            with self.assertRaises(NoKnowledge):
                readings(craft, (0, (0,), None, standings))


class ReadTest(unittest.TestCase):
    def test_against_the_words(self):
        told = {"read": 0, "outside": 0}
        for chance, slow, wishes in cases(74, 150):
            craft = slow.craft
            knowledge = some_knowledge(chance, slow, wishes, 9)
            row, lacks, length, standings = knowledge
            can_come = {}
            for standing in standings:
                for reading in slow.readings(standing[0], lacks, length):
                    can_come.setdefault(reading, []).append(standing)
            self.assertEqual(readings(craft, knowledge), in_order(can_come))
            for reading, left in can_come.items():
                behind = (row, support.lacks_behind(lacks, reading), length, tuple(left))
                self.assertEqual(read(craft, knowledge, reading), behind)
                told["read"] += 1
            for _ in range(10):
                reading = tuple(chance.choice((None, -1, 0, 1, 2, 3)) for _ in craft.sensors)
                if craft.lengths[2]:
                    reading += (chance.randint(0, craft.lengths[1]),)
                if reading not in can_come:
                    with self.assertRaises(Outside):
                        read(craft, knowledge, reading)
                    told["outside"] += 1
        self.assertGreater(min(told.values()), 300)

    def test_outside(self):
        sensors = ((X, 0, 1), (X, 1, 0))
        craft = Craft(support.small_plant(), ((0,),), sensors, (1, 2, True), ((2,),))
        knowledge = (0, (0, 0), 2, (((1,), ()), ((3,), ())))
        self.assertEqual(read(craft, knowledge, (None, 2, 2)), (0, (1, 0), 2, knowledge[3]))
        self.assertEqual(read(craft, knowledge, (3, 4, 2)), (0, (0, 0), 2, (((3,), ()),)))
        lacked = (0, (1, 0), 2, knowledge[3])
        self.assertEqual(read(craft, lacked, (1, 0, 2)), (0, (0, 0), 2, (((1,), ()),)))
        for known, reading in [(knowledge, (3, 1, 2)), (knowledge, (2, 2, 2)), (knowledge, (None, 2, 1)),
                               (knowledge, (None, 2, 0)), (lacked, (None, 2, 2)), (knowledge, (1, None, 2)),
                               ((0, (0, 0), 2, ()), (1, 1, 2)), (knowledge, (10 ** 199, 2, 2))]:
            with self.assertRaises(Outside):
                read(craft, known, reading)

    def test_no_reading(self):
        craft = Craft(support.small_plant(), ((0,),), ((X, 0, 1),), (1, 2, True), ((2,),))
        knowledge = first(craft, ())
        odd = [(2,), (2, 3), (2, -1), (2, None), (2, True), (True, 0), (2, 0, 0), [2, 0], ("2", 0), ((2,), 0), ()]
        for reading in odd + [one for one in support.junk() if one not in [(0, 0), (1, 2)]] + [(1, True)]:
            with self.assertRaises(NoReading):
                read(craft, knowledge, reading)
        untold = support.small_craft()
        for reading in [(2, 0), (True,), [2], (), None, ("2",)]:
            with self.assertRaises(NoReading):
                read(untold, first(untold, ()), reading)

    def test_new_lists(self):
        craft = support.small_craft()
        knowledge = first(craft, ())
        readings(craft, knowledge).append(1)
        self.assertEqual(readings(craft, knowledge), [(2,)])


class LedTest(unittest.TestCase):
    def right(self, slow, wishes, knowledge, row):
        craft, (acting, lacks, _, standings) = slow.craft, knowledge
        low, high, told = craft.lengths
        behind = {}
        for length in range(low, high + 1):
            for place, counts in standings:
                for _, places in slow.walks(place, acting, length):
                    at = counts
                    for one in places[1:]:
                        at = counted(wishes, at, one)
                    if None not in at:
                        behind.setdefault(length if told else None, set()).add((places[-1], at))
        lengths = range(low, high + 1) if told else [None]
        return tuple((row, lacks, length, tuple(sorted(behind.get(length, ())))) for length in lengths)

    def test_against_all_pushes(self):
        for chance, slow, wishes in cases(75, 120, most_places=8):
            for _ in range(3):
                knowledge = some_knowledge(chance, slow, wishes, 3)
                row = chance.randrange(len(slow.craft.levers))
                self.assertEqual(led(slow.craft, wishes, knowledge, row), self.right(slow, wishes, knowledge, row))

    def test_left_out_where_a_wish_breaks_amid(self):
        plant = Plant(Format(6, 0, 0), "up", ((0, 9),), ((None, (("plus", X, ("in", 1)),)),), ((0, 0),))
        for told in (True, False):
            craft = Craft(plant, ((1,), (2,)), ((X, 0, 0),), (1, 3, told), ((2,),))
            wishes = (("never", (((4, 4),),)),)
            knowledge = (0, (0,), 1 if told else None, (((2,), (0,)), ((7,), (0,))))
            lots = [(3, 8), (9,), (9,)]
            if told:
                right = tuple((1, (0,), at + 1, tuple(((one,), (0,)) for one in lot)) for at, lot in enumerate(lots))
            else:
                right = ((1, (0,), None, (((3,), (0,)), ((8,), (0,)), ((9,), (0,)))),)
            self.assertEqual(led(craft, wishes, knowledge, 1), right)
            every = (("never", (((0, 9),),)),)
            self.assertEqual([known[3] for known in led(craft, every, knowledge, 0)], [()] * (3 if told else 1))

    def staying(self, lengths):
        plant = Plant(Format(10, 0, 0), "up", ((0, 399),), ((None, (X,)),), ((0, 0),))
        return Craft(plant, ((0,),), ((("number", 0), 0, 0),), lengths, ((0,),))

    def many_standings(self, many, length):
        """So many standings, eight counts at a place: each of them is led to just one another."""
        standings = [((place,), (3 * count,)) for place in range(400) for count in range(8)]
        return (0, (0,), length, tuple(standings[:many]))

    def test_up_to_3000_standings(self):
        wishes = (("again", (), 30),)
        for many in (3000, 3001, 3200):
            for lengths in [(1, 1, False), (1, 1, True), (1, 3, True), (2, 2, False)]:
                craft = self.staying(lengths)
                knowledge = self.many_standings(many, 0 if lengths[2] else None)
                if many == 3000:
                    found = led(craft, wishes, knowledge, 0)
                    self.assertEqual(len(found), 3 if lengths == (1, 3, True) else 1)
                    self.assertEqual([len(known[3]) for known in found], [3000] * len(found))
                else:
                    with self.assertRaises(TooMany) as caught:
                        led(craft, wishes, knowledge, 0)
                    self.assertEqual(caught.exception.most, 3000)

    def test_lengths_that_are_not_told_are_taken_together(self):
        wishes = (("again", (), 30),)
        craft = self.staying((1, 2, False))
        self.assertEqual(len(led(craft, wishes, self.many_standings(1500, None), 0)[0][3]), 3000)
        with self.assertRaises(TooMany):
            led(craft, wishes, self.many_standings(1501, None), 0)

    def test_too_many_behind_all_others(self):
        craft, wishes = self.staying((1, 1, True)), (("again", (), 30),)
        with self.assertRaises(NoLever):
            led(craft, wishes, self.many_standings(3200, 0), 1)
        with self.assertRaises(NoKnowledge):
            led(craft, wishes, self.many_standings(3200, None), 1)

    def test_errors_in_order(self):
        craft, wishes = support.small_craft(), (("never", (((4, 4),),)),)
        knowledge = first(craft, wishes)
        for thing in [first(craft, ()), knowledge[:3], list(knowledge)] + support.junk():
            with self.assertRaises(NoKnowledge):
                led(craft, wishes, thing, None)
        for row in [2, -1, 10 ** 199] + [one for one in support.junk() if type(one) is not int]:
            with self.assertRaises(NoLever):
                led(craft, wishes, knowledge, row)

    def test_counts_that_no_places_lead_to(self):
        craft = support.small_craft()
        area = (((4, 4),),)
        wishes = (("never", area), ("within", area, 30), ("answered", area, area, 1), ("again", area, 1))
        for counts in [(31,) * 4, (-1,) * 4, (5, 31, 7, -1), (-1, -1, 31, 31)]:
            for known in led(craft, wishes, (0, (0,), None, (((2,), counts),)), 1):
                self.assertIs(is_knowledge(craft, wishes, known), True)


class BreakInTest(unittest.TestCase):
    def shortest(self, slow, wishes, knowledge):
        """The fewest pushes by which a wish breaks, and all pairs that are such breaks."""
        row, _, _, standings = knowledge
        found = []
        for standing in standings:
            for length in range(1, slow.craft.lengths[1] + 1):
                for pushes, places in slow.walks(standing[0], row, length):
                    counts = [standing[1]]
                    for place in places[1:]:
                        counts.append(counted(wishes, counts[-1], place))
                    if None in counts[-1] and not any(None in one for one in counts[:-1]):
                        found.append((standing, pushes))
        return min((len(pushes) for _, pushes in found), default=None), found

    def test_against_all_pushes(self):
        told = {True: 0, False: 0, "longer": 0}
        for at, (chance, slow, wishes) in enumerate(cases(76, 150, most_places=8)):
            craft, knowledge = slow.craft, some_knowledge(chance, slow, wishes, 3)
            fewest, breaks = self.shortest(slow, wishes, knowledge)
            found = break_in(craft, wishes, knowledge)
            told[found is not None] += 1
            if found is None:
                self.assertIsNone(fewest)
            else:
                self.assertIn(found, breaks)
                self.assertEqual(len(found[1]), fewest)
            for pair in chance.sample(breaks, min(len(breaks), 20)):
                self.assertIs(is_break_in(craft, wishes, knowledge, pair), True)
                told["longer"] += len(pair[1]) > fewest
                for thing in support.changed(pair, at, 8):
                    typed = judged(craft, len(wishes), knowledge[:3] + ((thing[0],),)) if (
                        type(thing) is tuple and len(thing) == 2) else False
                    right = typed and thing in breaks and all(
                        type(item) is int for push in thing[1] for item in push)
                    self.assertIs(is_break_in(craft, wishes, knowledge, thing), right)
        self.assertGreater(min(told.values()), 30)

    def test_pushes_more_and_fewer(self):
        craft = Craft(support.small_plant(), ((0,),), ((X, 0, 0),), (1, 4, False), ((1,),))
        wishes = (("never", (((3, 4),),)),)
        knowledge = first(craft, wishes)
        standing = ((1,), (0,))
        self.assertEqual(break_in(craft, wishes, knowledge), (standing, ((1,), (1,))))
        for pushes, right in [(((1,), (1,)), True), (((0,), (1,), (1,)), True), (((1,), (0,), (0,), (1,)), True),
                              (((1,),), False), (((1,), (1,), (1,)), False), ((), False), (((1,), (0,)), False),
                              (((0,), (0,), (0,), (1,), (1,)), False), (((1,), (1,), (0,)), False),
                              ([(1,), (1,)], False), (((1,), [1]), False), (((1,), (True,)), False),
                              (((2,), (1,)), False)]:
            self.assertIs(is_break_in(craft, wishes, knowledge, (standing, pushes)), right)
        for other in [((2,), (0,)), ((1,), (1,)), ((True,), (0,)), ((1,), (False,)), [(1,), (0,)], ((1,),), None]:
            self.assertIs(is_break_in(craft, wishes, knowledge, (other, ((1,), (1,)))), False)

    def test_up_to_hi_whatever_lo(self):
        plant = support.small_plant()
        wishes = (("never", (((4, 4),),)),)
        for lengths, fewest in [((3, 3, False), 2), ((1, 2, True), 2), ((1, 1, True), None)]:
            craft = Craft(plant, ((0,),), ((X, 0, 0),), lengths, ((2,),))
            found = break_in(craft, wishes, first(craft, wishes))
            self.assertEqual(None if found is None else len(found[1]), fewest)

    def test_the_row_of_the_knowledge_acts(self):
        craft, wishes = support.small_craft(), (("never", (((4, 4),),)),)
        standing = ((3,), (0,))
        self.assertEqual(break_in(craft, wishes, (0, (0,), None, (standing,))), (standing, ((1,),)))
        self.assertIsNone(break_in(craft, wishes, (1, (0,), None, (standing,))))
        self.assertIs(is_break_in(craft, wishes, (1, (0,), None, (standing,)), (standing, ((1,),))), False)
        self.assertIsNone(break_in(craft, wishes, (0, (0,), None, ())))

    def test_judges_any_object(self):
        craft = Craft(support.small_plant(), ((0,),), ((X, 0, 0),), (1, 2, False), ((2,),))
        wishes = (("never", (((4, 4),),)),)
        right, knowledge = (((2,), (0,)), ((1,), (1,))), first(craft, wishes)
        self.assertIs(is_break_in(craft, wishes, knowledge, right), True)
        for thing in support.junk():
            self.assertIs(is_break_in(craft, wishes, knowledge, thing), False)
            for path in support.paths(right)[1:]:
                other = support.replaced(right, path, thing)
                same = repr(other) == repr(right)
                self.assertIs(is_break_in(craft, wishes, knowledge, other), same)


class HindsightTest(unittest.TestCase):
    def test_knowledge_against_all_runs(self):
        """What is known along readings and rows is where runs with just these can stand."""
        many = 0
        for chance, slow, wishes in cases(77, 120, most_places=8):
            craft, (low, high, told) = slow.craft, slow.craft.lengths
            walks = [(place,) for place in craft.starts if None not in begun(wishes, place)]
            knowledge, acting, lacks, length = first(craft, wishes), 0, (0,) * len(craft.sensors), 0
            for _ in range(3):
                possible = readings(craft, knowledge)
                right = {reading for walk in walks for reading in slow.readings(walk[-1], lacks, length)}
                self.assertEqual(possible, in_order(right))
                if not possible or len(walks) > 400:
                    break
                reading, row = chance.choice(possible), chance.randrange(len(craft.levers))
                knowledge = read(craft, knowledge, reading)
                walks = [walk for walk in walks if reading in slow.readings(walk[-1], lacks, length)]
                lacks = support.lacks_behind(lacks, reading)
                self.same(wishes, knowledge, walks)
                behind = led(craft, wishes, knowledge, row)
                lengths = range(low, high + 1)
                if told:
                    length = chance.choice(lengths)
                    lengths, behind = [length], behind[length - low:]
                walks = self.further(slow, wishes, walks, acting, lengths)
                knowledge, acting = behind[0], row
                self.assertEqual(knowledge[:3], (row, lacks, length if told else None))
                self.same(wishes, knowledge, walks)
                many += len(walks) > 1
        self.assertGreater(many, 60)

    def further(self, slow, wishes, walks, acting, lengths):
        found = {walk + places[1:] for walk in walks for many in lengths
                 for _, places in slow.walks(walk[-1], acting, many)}
        return sorted(walk for walk in found if support.broken(wishes, walk) is None)

    def same(self, wishes, knowledge, walks):
        right = {(walk[-1], tuple(support.count(wish, walk) for wish in wishes)) for walk in walks}
        self.assertEqual(knowledge[3], tuple(sorted(right)))


if __name__ == "__main__":
    unittest.main()
