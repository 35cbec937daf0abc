"""Promises 4.1 to 4.5: wishes, breaks, counts, harder ones, breaks of runs."""

import random
import unittest

from steadycraft.crafts import Craft
from steadycraft.dyads import Format
from steadycraft.errors import NoRun, NoWish
from steadycraft.plants import Plant
from steadycraft.wishes import are_wishes, begun, breaks_at, broken, counted, harder, is_breaking
from tests import support

A, B = (((0, 0),),), (((1, 1),),)
WITH_K, WITH_OTHER = ("within", "answered", "again"), ("answered", "ahead")


def plant_of(axes):
    stay = tuple(("in", axis) for axis in range(axes))
    return Plant(Format(6, 0, 0), "up", ((0, 3),) * axes, ((None, stay),), ((0, 0),) * axes)


def is_span(thing):
    return type(thing) is tuple and len(thing) == 2 and [type(end) for end in thing] == [int, int] and (
        -1000 <= thing[0] <= thing[1] <= 1000)


def is_area(axes, thing):
    if type(thing) is not tuple or len(thing) > 6:
        return False
    return all(type(box) is tuple and len(box) == axes and all(map(is_span, box)) for box in thing)


def is_wish(axes, thing):
    """Whether a thing is a wish of so many axes, by the document's words."""
    if type(thing) is not tuple or not thing or type(thing[0]) is not str:
        return False
    areas, ks = {"never": (1, 0), "within": (1, 1), "answered": (2, 1), "ahead": (2, 0),
                 "again": (1, 1)}.get(thing[0], (9, 9))
    if len(thing) != 1 + areas + ks or (ks and (type(thing[-1]) is not int or thing[-1] not in range(1, 31))):
        return False
    return all(is_area(axes, area) for area in thing[1:1 + areas])


def no_wishes_of(axes):
    """Things that are no wish of a plant with one axis."""
    odd = [("never",), ("never", A, 1), ("never", A, A), ("never", [((0, 0),)]), ("never", (((0, 0), (0, 0)),)),
           ("within", A), ("within", A, 0), ("within", A, 31), ("within", A, True), ("within", A, None),
           ("again", A, 0), ("again", A, 31), ("again", A, A), ("answered", A, B), ("answered", A, 3),
           ("answered", A, B, 0), ("answered", A, B, 31), ("answered", A, B, 1, 1), ("ahead", A), ("ahead", A, 3),
           ("ahead", A, B, 3), ("Never", A), ("neve", A), ["never", A], (b"never", A), (A, "never"), "never", (),
           ("never", A * 7), ("never", (((1, 0),),)), ("never", (((0, 1001),),)), ("never", ((0, 0),)),
           ("never", (((0, True),),)), ("never", None), (None, A), (("never",), A), ({}, A), ([], A)]
    return odd + support.junk()


class AreWishesTest(unittest.TestCase):
    def test_right_ones(self):
        plant = plant_of(1)
        right = [("never", ()), ("never", A * 6), ("within", A, 1), ("within", (), 30), ("answered", A, (), 30),
                 ("answered", (), B, 1), ("ahead", A, B), ("ahead", (), ()), ("again", A, 1), ("again", A, 30)]
        for wish in right:
            self.assertIs(are_wishes(plant, (wish,)), True)
        for many in range(7):
            self.assertIs(are_wishes(plant, tuple(right[:many])), many <= 4)
        self.assertIs(are_wishes(plant, (right[0],) * 4), True)

    def test_wrong_ones(self):
        plant = plant_of(1)
        for thing in no_wishes_of(1):
            self.assertIs(are_wishes(plant, (thing,)), False)
            self.assertIs(are_wishes(plant, (("never", A), thing)), False)
            self.assertIs(are_wishes(plant, ("never", thing)), False)
            if thing != ():
                self.assertIs(are_wishes(plant, thing), False)
                self.assertIs(are_wishes(plant, (("never", (thing,)),)), thing == ((1, 2),))
        self.assertIs(are_wishes(plant, [("never", A)]), False)

    def test_by_axes(self):
        for axes in (1, 2, 3):
            for other in (1, 2, 3):
                wish = ("ahead", (), (((0, 1),) * other,))
                self.assertIs(are_wishes(plant_of(axes), (wish,)), axes == other)
                mixed = ("ahead", (((0, 1),) * axes,), (((0, 1),) * other,))
                self.assertIs(are_wishes(plant_of(axes), (mixed,)), axes == other)

    def test_against_the_words(self):
        chance = random.Random(61)
        told = {True: 0, False: 0}
        for at in range(300):
            plant = support.some_plant(chance)
            wishes = support.some_wishes(chance, plant, 30)
            for thing in [wishes] + support.changed(wishes, at, 15, support.junk()):
                right = type(thing) is tuple and len(thing) <= 4 and all(
                    is_wish(len(plant.box), wish) for wish in thing)
                self.assertIs(are_wishes(plant, thing), right)
                told[right] += 1
        self.assertGreater(min(told.values()), 300)


class BrokenTest(unittest.TestCase):
    def ks_of(self, wish, top):
        return range(1, top) if wish[0] in WITH_K else (None,)

    def test_tick_by_tick(self):
        chance = random.Random(62)
        seen = {}
        for _ in range(1500):
            plant = support.some_plant(chance)
            wishes = support.some_wishes(chance, plant, chance.choice((2, 4, 30)))
            places = chance.choices(support.rows(plant.box), k=chance.randint(1, 40 if chance.random() < 0.2 else 9))
            right = support.broken(wishes, places)
            self.assertEqual(broken(wishes, places), right)
            self.assertEqual(broken(wishes, tuple(places)), right)
            counts = begun(wishes, places[0])
            for at, place in enumerate(places):
                if at > 0:
                    counts = counted(wishes, counts, place)
                self.assertEqual(counts, tuple(support.count(wish, places[:at + 1]) for wish in wishes))
            if right is not None:
                word = wishes[right[1]][0]
                seen[word] = seen.get(word, 0) + 1
        self.assertEqual(len(seen), 5)
        self.assertGreater(min(seen.values()), 20)

    def test_never(self):
        self.assertIsNone(broken((("never", A),), [(1,), (2,)]))
        self.assertEqual(broken((("never", A),), [(1,), (0,), (0,)]), (1, 0))
        self.assertEqual(broken((("never", A),), [(0,)]), (0, 0))

    def test_k_of_1_and_of_30(self):
        out, inside = (3,), (0,)
        for k in (1, 2, 30):
            self.assertIsNone(broken((("within", A, k),), [out] * k))
            self.assertEqual(broken((("within", A, k),), [out] * (k + 1)), (k, 0))
            self.assertEqual(broken((("within", A, k),), [out] * (k + 1) + [inside]), (k, 0))
            self.assertIsNone(broken((("within", A, k),), [out] * k + [inside] + [out] * 40))
            self.assertIsNone(broken((("within", A, k),), [inside] + [out] * 40))
            self.assertIsNone(broken((("again", A, k),), [out] * k))
            self.assertEqual(broken((("again", A, k),), [out] * (k + 1)), (k, 0))
            self.assertEqual(broken((("again", A, k),), [inside] + [out] * (k + 1)), (k + 1, 0))
            self.assertIsNone(broken((("again", A, k),), ([out] * k + [inside]) * 3))
            answered = (("answered", A, B, k),)
            self.assertIsNone(broken(answered, [inside] + [out] * (k - 1) + [(1,)] + [out] * 40))
            self.assertEqual(broken(answered, [inside] + [out] * 40), (k, 0))
            self.assertEqual(broken(answered, [out, inside] + [inside] * 40), (k + 1, 0))
            self.assertIsNone(broken(answered, [out] * 40 + [inside] * k))
            self.assertIsNone(broken((("answered", A, A, k),), [inside] + [out] * 40))
            self.assertEqual(broken(answered, [inside, (1,), inside] + [out] * k + [(1,)]), (k + 2, 0))

    def test_ahead(self):
        self.assertEqual(broken((("ahead", A, B),), [(3,), (1,)]), (1, 0))
        self.assertEqual(broken((("ahead", A, B),), [(1,), (0,)]), (0, 0))
        self.assertIsNone(broken((("ahead", A, B),), [(0,), (1,)]))
        self.assertIsNone(broken((("ahead", A, A),), [(0,)]))
        self.assertEqual(broken((("ahead", (), A),), [(0,)]), (0, 0))
        self.assertIsNone(broken((("ahead", A, ()),), [(1,)] * 9))

    def test_areas_without_boxes(self):
        self.assertIsNone(broken((("never", ()), ("answered", (), (), 1), ("ahead", (), ())), [(0,)] * 40))
        self.assertEqual(broken((("again", (), 2), ("within", (), 2)), [(0,)] * 5), (2, 0))

    def test_least_tick_then_least_wish(self):
        wishes = (("within", A, 3), ("again", A, 2), ("never", B), ("never", B))
        self.assertEqual(broken(wishes, [(3,), (3,), (3,), (3,)]), (2, 1))
        self.assertEqual(broken(wishes, [(3,), (1,), (3,), (3,)]), (1, 2))
        self.assertIsNone(broken((), [(0,)]))

    def test_broken_counts_stay(self):
        wishes = (("never", A), ("within", A, 1), ("answered", A, B, 1), ("ahead", A, B), ("again", A, 1))
        for place in [(0,), (1,), (2,)]:
            self.assertEqual(counted(wishes, (None,) * 5, place), (None,) * 5)
            self.assertEqual(len(counted(wishes[:2], (None, -1), place)), 2)
        self.assertEqual(begun((), (0,)), ())
        self.assertEqual(counted((), (), (0,)), ())

    def test_counts(self):
        wishes = (("never", B), ("within", A, 9), ("answered", A, B, 9), ("ahead", A, B), ("again", A, 9))
        told = [begun(wishes, (3,))]
        for at in [3, 0, 3, 0, 3]:
            told.append(counted(wishes, told[-1], (at,)))
        self.assertEqual(told, [(0, 0, 0, 0, 1), (0, 1, 0, 0, 2), (0, -1, 1, 1, 0), (0, -1, 2, 1, 1),
                                (0, -1, 3, 1, 0), (0, -1, 4, 1, 1)])
        self.assertEqual(begun(wishes, (0,)), (0, -1, 1, 1, 0))
        self.assertEqual(begun(wishes, (1,)), (None, 0, 0, None, 1))


class HarderTest(unittest.TestCase):
    def test_word_by_word(self):
        small, large, two = (((1, 2),),), (((0, 4),),), (((1, 2),), ((5, 6),))
        cases = [(("never", large), ("never", small), True), (("never", small), ("never", large), False),
                 (("never", two), ("never", small), True), (("never", small), ("never", two), False),
                 (("never", small), ("never", ()), True), (("never", ()), ("never", small), False),
                 (("never", ()), ("never", ()), True),
                 (("within", small, 3), ("within", large, 3), True), (("within", large, 3), ("within", small, 3), False),
                 (("within", small, 3), ("within", large, 2), False), (("within", small, 2), ("within", large, 3), True),
                 (("within", (), 2), ("within", small, 3), True), (("within", small, 2), ("within", (), 3), False),
                 (("again", small, 3), ("again", two, 3), True), (("again", two, 3), ("again", small, 3), False),
                 (("again", small, 1), ("again", small, 30), True), (("again", small, 30), ("again", small, 29), False),
                 (("answered", large, small, 2), ("answered", small, large, 2), True),
                 (("answered", small, small, 2), ("answered", large, large, 2), False),
                 (("answered", large, large, 2), ("answered", small, small, 2), False),
                 (("answered", large, small, 3), ("answered", small, large, 2), False),
                 (("answered", large, (), 1), ("answered", (), small, 2), True),
                 (("ahead", small, large), ("ahead", large, small), True),
                 (("ahead", large, large), ("ahead", small, small), False),
                 (("ahead", small, small), ("ahead", large, large), False),
                 (("answered", large, two, 2), ("answered", small, small, 2), False),
                 (("answered", large, small, 2), ("answered", two, large, 2), False),
                 (("answered", two, large, 2), ("answered", small, large, 2), True),
                 (("answered", small, small, 2), ("answered", small, two, 2), True),
                 (("ahead", two, large), ("ahead", small, small), False),
                 (("ahead", small, large), ("ahead", large, two), False),
                 (("ahead", small, two), ("ahead", two, small), True),
                 (("ahead", small, small), ("ahead", large, large), False),
                 (("ahead", (), large), ("ahead", large, ()), True),
                 (("never", large), ("within", large, 3), False), (("within", large, 3), ("again", large, 3), False),
                 (("ahead", small, large), ("answered", large, small, 3), False)]
        for one, other, right in cases:
            self.assertIs(harder(one, other), right, (one, other))

    def test_unlike_axes(self):
        one, two = ("never", (((0, 9),),)), ("never", (((0, 9), (0, 9)),))
        self.assertIs(harder(one, two), False)
        self.assertIs(harder(two, one), False)
        self.assertIs(harder(two, ("never", ())), True)
        self.assertIs(harder(("ahead", (((0, 9),),), ()), ("ahead", (((0, 9),) * 2,), ())), False)
        self.assertIs(harder(("ahead", (), ()), ("ahead", (((0, 9),) * 3,), ())), True)

    def test_a_box_within_one_box(self):
        halves = (((0, 1),), ((2, 3),))
        self.assertIs(harder(("never", halves), ("never", (((0, 3),),))), False)
        self.assertIs(harder(("never", (((0, 3), (0, 3)),)), ("never", (((1, 2), (0, 4)),))), False)
        self.assertIs(harder(("never", (((0, 3), (0, 3)),)), ("never", (((1, 2), (0, 3)),))), True)

    def test_no_wish_of_both(self):
        right = ("within", A, 3)
        mixed = [("ahead", A, (((0, 0), (0, 0)),)), ("answered", (((0, 0), (0, 0)),), B, 2),
                 ("never", (((0, 0),), ((0, 0), (0, 0)))), ("never", (((0, 0),) * 4,)), ("never", ((),))]
        for thing in no_wishes_of(None) + mixed:
            if is_wish(2, thing):
                continue
            with self.assertRaises(NoWish):
                harder(thing, right)
            with self.assertRaises(NoWish):
                harder(right, thing)
        self.assertIs(harder(("never", (((0, 0), (0, 0)),)), right), False)

    def nearly(self, chance, wish):
        """A wish that is otherwise by little."""
        found = list(wish)
        for at, item in enumerate(wish):
            if isinstance(item, int):
                found[at] = min(30, max(1, item + chance.randint(-1, 1)))
            elif isinstance(item, tuple):
                found[at] = tuple(tuple((low - chance.randint(-1, 1), high + 1) for low, high in box)
                                  if chance.random() < 0.5 else box for box in item)
        return tuple(found) if is_wish(len(wish[1][0]) if wish[1] else 1, tuple(found)) else wish

    def test_fact_of_harder_wishes(self):
        chance = random.Random(64)
        many = 0
        for _ in range(6000):
            plant = support.some_plant(chance)
            one = support.some_wish(chance, plant)
            if harder(one, other := self.nearly(chance, one)):
                places = chance.choices(support.rows(plant.box), k=8)
                if broken((one,), places) is None:
                    self.assertIsNone(broken((other,), places))
                    many += 1
        self.assertGreater(many, 100)


class BreaksAtTest(unittest.TestCase):
    def test_against_the_words(self):
        chance = random.Random(65)
        told = {"none": 0, "amid": 0, "begin": 0, "last": 0, "first": 0}
        for _ in range(120):
            slow = support.Slow(support.some_craft(chance))
            for _ in range(12):
                wishes = support.some_wishes(chance, slow.craft.plant)
                run = support.some_run(chance, slow, chance.randint(1, 4))
                told[self.check(slow, wishes, run)] += 1
        self.assertGreater(min(told.values()), 15)

    def check(self, slow, wishes, run):
        place, spots, places, row = run[0], [(0, 0)], [run[0]], 0
        for period, (_, chosen, pushes) in enumerate(run[1]):
            for at, push in enumerate(pushes):
                place = slow.goals[place, row, push]
                places.append(place)
                spots.append((period, at + 1))
            row = chosen
        found = support.broken(wishes, places)
        right = None if found is None else spots[found[0]] + (found[1],)
        self.assertEqual(breaks_at(slow.craft, wishes, run), right)
        last = found is not None and found[0] == len(places) - 1
        self.assertIs(is_breaking(slow.craft, wishes, run), last)
        if right is None:
            return "none"
        if last:
            return "last"
        if right[:2] == (0, 0):
            return "first"
        return "begin" if right[1] == len(run[1][right[0]][2]) else "amid"

    def test_a_begin_is_the_last_tick_ahead(self):
        craft = Craft(support.small_plant(), ((0,),), ((("in", 0), 0, 0),), (2, 2, False), ((2,), (4,)))
        wishes = (("never", (((4, 4),),)),)
        periods = (((2,), 0, ((1,), (1,))), ((4,), 0, ()))
        self.assertEqual(breaks_at(craft, wishes, ((2,), periods)), (0, 2, 0))
        self.assertIs(is_breaking(craft, wishes, ((2,), periods)), True)
        self.assertIs(is_breaking(craft, wishes, ((2,), periods[:1])), True)
        longer = (((2,), 0, ((1,), (1,))), ((4,), 0, ((0,),)))
        self.assertEqual(breaks_at(craft, wishes, ((2,), longer)), (0, 2, 0))
        self.assertIs(is_breaking(craft, wishes, ((2,), longer)), False)
        self.assertEqual(breaks_at(craft, wishes, ((4,), (((4,), None, ()),))), (0, 0, 0))
        self.assertIs(is_breaking(craft, wishes, ((4,), (((4,), None, ()),))), True)
        self.assertIs(is_breaking(craft, wishes, ((4,), (((4,), None, ((0,),)),))), False)
        self.assertIsNone(breaks_at(craft, (), ((2,), periods)))

    def test_no_run(self):
        craft, wishes = support.small_craft(), (("never", (((2, 2),),)),)
        run = ((2,), (((2,), None, ()),))
        self.assertEqual(breaks_at(craft, wishes, run), (0, 0, 0))
        odd = [((2,), ()), ((1,), (((1,), None, ()),)), ((2,), (((3,), None, ()),)), list(run), run[1]]
        for thing in odd + support.junk():
            with self.assertRaises(NoRun):
                breaks_at(craft, wishes, thing)
            self.assertIs(is_breaking(craft, wishes, thing), False)


if __name__ == "__main__":
    unittest.main()
