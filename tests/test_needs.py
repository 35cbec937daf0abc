"""Promise 7.9: what code needs, of whatever readings out of a lot."""

import itertools
import random
import unittest

from steadycraft.codes import Code
from steadycraft.compiling import compiled
from steadycraft.crafts import Craft
from steadycraft.dyads import Format
from steadycraft.errors import NoLot, NoWhat, TooMany
from steadycraft.needs import is_needing, lot_of, needing, needs, stands
from steadycraft.programs import Program
from steadycraft.running import is_apart, ran
from tests import support
from tests.coding import some_code
from tests.playing import in_order
from tests.programming import some_program, some_reading
from tests.test_games import line

F = Format(3, -2, 2)
X = ("in", 0)
END = ("end",)
WHATS = ("beats", "deep", "fault", "late")


def coded(*rows, shape=(1, False, 3), cells=(1, 0, 1), forms=(0, 0)):
    return Code(shape, F, cells, forms, rows, len(rows) - 1)


def first_stand(code):
    return (0,) * code.cells[0], (0,) * code.cells[1], ((0, 0),) * code.forms[0]


class Needed:
    """All periods that come, by going through the stands round by round."""

    def __init__(self, code, lot, most=300):
        self.code, self.lot = code, in_order(lot)
        self.periods, todo = {}, [first_stand(code)]
        while todo and len(self.periods) < most:
            stand = todo.pop()
            if stand not in self.periods:
                self.periods[stand] = {reading: self.period(stand, reading) for reading in self.lot}
                todo += [behind for word, behind, _, _ in self.periods[stand].values() if word == "done"]
        self.whole = not todo
        told = [period for periods in self.periods.values() for period in periods.values()]
        self.needs = (max(beats for _, _, beats, _ in told), max(deep for _, _, _, deep in told),
                      tuple(sorted({word for word, _, _, _ in told})))

    def period(self, stand, reading):
        word, _, (kept, knocks, forms), beats, deep = ran(self.code, stand, reading, ())
        return word, (kept, (0,) * len(knocks), forms), beats, deep

    def is_so(self, what, period):
        word, _, beats, deep = period
        return {"beats": beats == self.needs[0], "deep": deep == self.needs[1]}.get(what, word == what)

    def is_needing(self, what, thing):
        if type(thing) is not tuple or not thing or not all(type(one) is tuple and one in self.lot and all(
                item is None or type(item) is int for item in one) for one in thing):
            return False
        stand = first_stand(self.code)
        for at, reading in enumerate(thing):
            period = self.period(stand, reading)
            if at == len(thing) - 1:
                return self.is_so(what, period)
            if period[0] != "done":
                return False
            stand = period[1]

    def shortest(self, what, most):
        """The first one in its order, of at most so many readings, by trying all."""
        for many in range(1, most + 1):
            for readings in itertools.product(self.lot, repeat=many):
                if self.is_needing(what, readings):
                    return readings
        return None


def some_lot(chance, shape):
    found = {some_reading(chance, shape) for _ in range(chance.randint(1, 4))}
    lot = sorted(found, key=repr)
    chance.shuffle(lot)
    return tuple(lot)


def walking_code(chance):
    """Code that goes among five numbers by what it reads, and faults at some of them."""
    a, shape = ("name", "a"), (1, False, 3)
    cases = []
    for at in range(5):
        inner = [(number, (("set", "a", ("number", chance.randrange(6))),)) for number in (0, 1, 2)]
        rows = (("row", chance.choice((("number", 0), ("number", 2), a))), ("rounds", chance.randint(1, 3), (("call", 1),)))
        cases.append((at, rows[:chance.randint(0, 2)] + (("choose", ("count", 0), tuple(inner), ()),)))
    code, _ = compiled(Program(shape, F, ("a",), (), (), ((("choose", a, tuple(cases), ()),), ()), ()))
    return code


def some_codes(seed, many):
    """Code of all sorts whose stands are few, and lots: (chance, code, lot, what comes of them)."""
    chance = random.Random(seed)
    while many > 0:
        pick = chance.random()
        if pick < 0.2:
            code = Code(*some_code(chance))
        elif pick < 0.4:
            code, _ = compiled(Program(*some_program(chance)))
        else:
            code = walking_code(chance)
        lot = some_lot(chance, code.shape)
        needed = Needed(code, lot, 60)
        if needed.whole and (len(needed.periods) > 2 or chance.random() < 0.2):
            many -= 1
            yield chance, code, lot, needed


class NeedsTest(unittest.TestCase):
    def test_against_the_words(self):
        told, wide = {}, 0
        for chance, code, lot, needed in some_codes(1301, 200):
            self.assertEqual(stands(code, lot), sorted(needed.periods))
            self.assertEqual(needs(code, lot), needed.needs)
            wide += len(needed.periods) > 3
            for word in needed.needs[2]:
                told[word] = told.get(word, 0) + 1
            for what in WHATS:
                found = needing(code, lot, what)
                slow = needed.shortest(what, 3)
                self.assertTrue(found == slow or slow is None and len(found) > 3)
                self.assertIs(found is None, what in ("fault", "late") and what not in needed.needs[2])
                if found is not None:
                    self.assertIs(is_needing(code, lot, what, found), True)
                things = self.near(chance, lot, found)
                for thing in things:
                    self.assertIs(is_needing(code, lot, what, thing), bool(needed.is_needing(what, thing)), thing)
        self.assertGreater(min(told["done"], told["fault"]), 30)
        self.assertGreater(wide, 20)

    def near(self, chance, lot, found):
        drawn = [tuple(chance.choices(lot, k=chance.randint(1, 4))) for _ in range(4)]
        if found is None:
            return drawn
        return drawn + [found[1:], found[:-1], found + found[-1:], found[:1] + found, list(found), lot[:1] + found,
                        found[-1]] + support.changed(found, chance.random(), 6)

    def test_any_order_of_a_lot(self):
        for chance, code, lot, needed in some_codes(1302, 30):
            for other in itertools.permutations(lot):
                self.assertEqual(stands(code, other), sorted(needed.periods))
                self.assertEqual(needs(code, other), needed.needs)
                for what in WHATS:
                    self.assertEqual(needing(code, other, what), needing(code, lot, what))

    def test_counting_code(self):
        # It counts up to 4 by readings of 1, and faults at a reading of 9 when it is at 4; 0 sets it back.
        code = coded(("load", 0, 0), ("count", 1, 0), ("number", 2, 9), ("same", 1, 2, 9), ("number", 3, 4),
                     ("same", 0, 3, 11), ("plus", 0, 0, 1), ("store", 0, 0), END,
                     ("number", 3, 4), ("same", 0, 3, 12), END, ("back",), END)
        lot = ((1,), (9,))
        self.assertEqual(stands(code, lot), [((at,), (), ()) for at in range(5)])
        self.assertEqual(needing(code, lot, "fault"), ((1,),) * 4 + ((9,),))
        self.assertEqual(needs(code, lot)[2], ("done", "fault"))
        self.assertIsNone(needing(code, lot, "late"))
        for thing, right in [(((1,),) * 4 + ((9,),), True), (((1,),) * 7 + ((9,),), True), (((9,),) * 4, False),
                             (((9,), (9,)) + ((1,),) * 4 + ((9,),), True), (((1,),) * 3 + ((9,),), False),
                             (((1,),) * 4 + ((9,), (9,)), False), (((1,),) * 4, False), ((), False),
                             (((1,),) * 4 + ((0,), (9,)), False)]:
            self.assertIs(is_needing(code, lot, "fault", thing), right, thing)

    def test_late_and_deep(self):
        code = coded(("count", 0, 0), ("number", 1, 1), ("less", 0, 1, 7), ("same", 0, 1, 3), ("call", 6), END, ("call", 8),
                     END, ("back",), END)
        # At a count of 1 it goes round and round, at others below 1 it ends at once; above it calls.
        self.assertEqual(needs(code, ((0,), (1,), (2,))), (100001, 2, ("done", "late")))
        self.assertEqual(needing(code, ((0,), (1,), (2,)), "late"), ((1,),))
        self.assertEqual(needing(code, ((0,), (1,), (2,)), "beats"), ((1,),))
        self.assertEqual(needing(code, ((0,), (1,), (2,)), "deep"), ((2,),))
        self.assertEqual(needs(code, ((None,),)), (2 + 1 + 2 + 1, 0, ("done",)))
        self.assertEqual(needing(code, ((None,), (0,)), "deep"), ((None,),))

    def test_knock_cells_are_0_at_begins(self):
        code = coded(("load", 0, 1), ("number", 1, 1), ("plus", 0, 0, 1), ("store", 1, 0), ("store", 0, 0), END,
                     cells=(1, 1, 0))
        self.assertEqual(stands(code, ((0,),)), [((0,), (0,), ()), ((1,), (0,), ())])
        self.assertIs(is_needing(code, ((0,),), "beats", ((0,),) * 5), True)

    def test_periods_that_are_not_done_lead_nowhere(self):
        code = coded(("number", 0, 5), ("store", 0, 0), ("back",), END)
        self.assertEqual(stands(code, ((0,),)), [((0,), (), ())])
        self.assertEqual(needs(code, ((0,),)), (3, 0, ("fault",)))
        self.assertIs(is_needing(code, ((0,),), "beats", ((0,), (0,))), False)

    def endless(self, many):
        """Code that counts periods, and goes round behind so many."""
        return coded(("load", 0, 0), ("number", 1, 1), ("plus", 0, 0, 1), ("number", 2, many), ("less", 0, 2, 6),
                     ("number", 0, 0), ("store", 0, 0), END)

    def test_too_many(self):
        lot = ((0,),)
        self.assertEqual(len(stands(self.endless(3000), lot)), 3000)
        calls = [stands, needs, lambda code, lot: needing(code, lot, "fault"),
                 lambda code, lot: is_needing(code, lot, "beats", ((0,),))]
        for many in (3001, 10 ** 9):
            for call in calls:
                with self.assertRaises(TooMany) as caught:
                    call(self.endless(many), lot)
                self.assertEqual(caught.exception.most, 3000)

    def test_no_lot_then_no_what(self):
        endless = self.endless(10 ** 9)
        things = [(), [(0,)], ((0,), (0,)), ((0, 0),), ((True,),), ((10 ** 9 + 1,),), (0,), ((0,), [1]), ((0,), None), "a"]
        for code in (endless, coded(END)):
            for thing in things + [one for one in support.junk() if one != ((1,),)]:
                if thing == (1,) or thing == ((),):
                    continue
                for call in [lambda: stands(code, thing), lambda: needs(code, thing), lambda: needing(code, thing, None),
                             lambda: is_needing(code, thing, None, None)]:
                    with self.assertRaises(NoLot):
                        call()
            for what in support.junk() + ["Beats", "beat", b"beats", ("beats",), ["deep"], "done"]:
                with self.assertRaises(NoWhat):
                    needing(code, ((0,),), what)
                with self.assertRaises(NoWhat):
                    is_needing(code, ((0,),), what, None)
        told = coded(END, shape=(2, True, 3))
        for thing in [((0, 0),), ((0, 0, 7),), ((0, 0, -1),), ((0, 0, None),), ((0, 0, False),), ((0,),)]:
            with self.assertRaises(NoLot):
                stands(told, thing)
        self.assertEqual(stands(told, ((0, None, 6), (None, 10 ** 9, 0))), [((0,), (), ())])

    def test_judges_any_object(self):
        code = coded(END)
        for thing in support.junk() + [((1,),), ((True,),), ((0, 0),), ((0.0 == 1,),)]:
            for what in WHATS:
                self.assertIs(is_needing(code, ((0,),), what, thing), False)
        for thing in [((0,),), ((0,),) * 9]:
            self.assertIs(is_needing(code, ((0,),), "beats", thing), True)

    def test_told_again_alike(self):
        for chance, code, lot, needed in some_codes(1303, 20):
            found = stands(code, lot)
            found.clear()
            again = Code(code.shape, code.form, code.cells, code.forms, code.rows, code.handler)
            self.assertEqual(stands(again, lot), sorted(needed.periods))

    def test_the_fact_of_needs(self):
        """Code that is apart takes no more, whenever knocks come; some period takes just so much."""
        many = 0
        for chance, code, lot, needed in some_codes(1304, 150):
            if not is_apart(code):
                continue
            many += 1
            beats, deep, words = needs(code, lot)
            stand = first_stand(code)
            for _ in range(12):
                reading = chance.choice(lot)
                knocks = tuple(sorted(chance.choices(range(20), k=chance.randint(0, 4))))
                word, _, stand, took, height = ran(code, stand, reading, knocks)
                self.assertLessEqual(took, beats)
                self.assertLessEqual(height, deep)
                self.assertIn(word, words)
                if word != "done":
                    stand = first_stand(code)
        self.assertGreater(many, 60)


class LotOfTest(unittest.TestCase):
    def test_against_all_places(self):
        chance = random.Random(1305)
        for _ in range(80):
            slow = support.Slow(support.some_craft(chance))
            craft = slow.craft
            found = set()
            every = itertools.product(*[range(lacks + 1) for _, _, lacks in craft.sensors])
            for place, lacks, length in itertools.product(slow.places, list(every), range(craft.lengths[1] + 1)):
                found.update(slow.readings(place, lacks, length))
            self.assertEqual(lot_of(craft), tuple(in_order(found)))

    def test_all_lacks_and_lengths(self):
        craft = Craft(line(0, 1, X), ((0,),), ((X, 1, 2), (("number", 5), 0, 0)), (2, 3, True), ((0,),))
        self.assertEqual(lot_of(craft), tuple((count, 5, length) for count in (None, -1, 0, 1, 2) for length in range(4)))
        craft = Craft(line(0, 1, X), ((0,),), ((X, 0, 0),), (2, 3, False), ((0,),))
        self.assertEqual(lot_of(craft), ((0,), (1,)))


if __name__ == "__main__":
    unittest.main()
