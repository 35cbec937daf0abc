"""Promises 7.5 and 7.6: a period of code, knocks, and code that is apart."""

import random
import unittest

from steadycraft.codes import Code
from steadycraft.dyads import Format
from steadycraft.errors import NoKnocks, NoReading, NoStand
from steadycraft.running import is_apart, ran
from tests import support
from tests.coding import BEATS, ITEMS, slowly_ran, some_code, some_stand
from tests.programming import some_reading

FAR = 10 ** 9
F = Format(3, -2, 2)
SHAPE = (2, True, 3)
END = ("end",)
READING = (3, None, 2)


def made(*rows, shape=SHAPE, cells=(2, 2, 2), forms=(1, 1), handler=0):
    return Code(shape, F, cells, forms, rows, handler)


def run(code, knocks=(), reading=READING, stand=None):
    return ran(code, stand or ((0,) * code.cells[0], (0,) * code.cells[1], ((0, 0),) * code.forms[0]), reading, knocks)


def put(register, integer):
    return ("number", register, integer)


class RanTest(unittest.TestCase):
    def test_against_the_words(self):
        told = {}
        for at in range(800):
            chance = random.Random(at)
            code = Code(*some_code(chance))
            stand = some_stand(chance, code)
            for _ in range(2):
                reading = some_reading(chance, code.shape)
                knocks = tuple(sorted(chance.choices(range(8), k=chance.choice((0, 0, 1, 2, 4)))))
                found = ran(code, stand, reading, knocks)
                self.assertEqual(found, slowly_ran(code, stand, reading, knocks))
                told[found[0], found[1] is None] = told.get((found[0], found[1] is None), 0) + 1
                stand = found[2]
        self.assertGreater(min(told["done", True], told["done", False], told["fault", True], told["fault", False]), 30)

    def test_words_and_beats(self):
        for beats, words in BEATS.items():
            for word in words.split():
                self.assertIn(word, ITEMS)
        for row, beats, held in [
                (put(0, -5), 1, -5), (("copy", 0, 1), 1, 7), (("plus", 0, 1, 2), 1, 10), (("minus", 0, 1, 2), 1, 4),
                (("times", 0, 1, 2), 3, 21), (("load", 0, 1), 2, 40), (("load", 0, 5), 2, 0), (("count", 0, 0), 2, 3),
                (("count", 0, 1), 2, 0), (("lacks", 0, 0), 2, 0), (("lacks", 0, 1), 2, 1), (("length", 0), 2, 2)]:
            code = made(put(1, 7), put(2, 3), row, ("store", 0, 0), END)
            self.assertEqual(run(code, (), READING, ((9, 40), (0, 0), ((0, 0),))),
                             ("done", None, ((held, 40), (0, 0), ((0, 0),)), 5 + beats, 0))
        for row, beats, held in [
                (("value", 0, (-3, 1)), 1, (-3, 1)), (("fcopy", 0, 1), 1, (7, 0)), (("fload", 0, 0), 2, (5, 0)),
                (("fload", 0, 1), 2, (0, 0)), (("least", 0, 1, 2), 2, (3, -2)), (("greatest", 0, 2, 1), 2, (7, 0)),
                (("least", 0, 2, 1), 2, (3, -2)), (("greatest", 0, 1, 2), 2, (7, 0)),
                (("fplus", "down", 0, 1, 2), 4, (7, 0)), (("fminus", "up", 0, 1, 2), 4, (7, 0)),
                (("ftimes", "up", 0, 1, 2), 6, (3, 1)), (("fminus", "near", 0, 2, 1), 4, (-3, 1)),
                (("of", "up", 0, 0), 4, (5, 1)), (("of", "down", 0, 0), 4, (1, 3)), (("fplus", "up", 0, 1, 2), 4, (1, 3)),
                (("fminus", "down", 0, 1, 2), 4, (3, 1)), (("ftimes", "cut", 0, 1, 2), 6, (5, 0))]:
            code = made(put(0, 9), ("value", 1, (7, 0)), ("value", 2, (3, -2)), row, ("fstore", 0, 0), END)
            self.assertEqual(run(code, (), READING, ((9, 40), (0, 0), ((5, 0),))),
                             ("done", None, ((9, 40), (0, 0), (held,)), 6 + beats, 0))

    def test_going(self):
        for row, holds in [(("less", 0, 1, 5), True), (("less", 1, 0, 5), False), (("less", 0, 0, 5), False),
                           (("same", 0, 0, 5), True), (("same", 0, 1, 5), False), (("below", 0, 1, 5), True),
                           (("below", 1, 0, 5), False), (("below", 0, 0, 5), False)]:
            code = made(put(1, 2), ("value", 1, (1, -2)), row, ("row", 1), END, ("row", 0), END)
            self.assertEqual(run(code), ("done", 0 if holds else 2, ((0, 0), (0, 0), ((0, 0),)), 7, 0))
        self.assertEqual(run(made(("go", 2), ("row", 0), END)), ("done", None, ((0, 0), (0, 0), ((0, 0),)), 2, 0))
        self.assertEqual(run(made(END)), ("done", None, ((0, 0), (0, 0), ((0, 0),)), 1, 0))
        self.assertEqual(run(made(put(0, 2), ("row", 0), put(0, 1), ("row", 0), END))[:2], ("done", 1))

    def test_calls(self):
        code = made(("call", 3), ("store", 0, 0), END, ("call", 6), put(0, 2), ("back",), ("back",))
        self.assertEqual(run(code), ("done", None, ((2, 0), (0, 0), ((0, 0),)), 2 + 2 + 2 + 1 + 2 + 2 + 1, 2))
        # Sixteen at once, and one more; what faults costs nothing.
        for deep in (16, 17):
            rows = tuple(("call", at + 1) for at in range(deep)) + (END,)
            word = "done" if deep == 16 else "fault"
            self.assertEqual(run(made(*rows)), (word, None, ((0, 0), (0, 0), ((0, 0),)), 33 if deep == 16 else 32, 16))
        again = made(put(1, 1), put(2, 300), ("call", 6), ("plus", 0, 0, 1), ("less", 0, 2, 2), END, ("back",))
        self.assertEqual(run(again), ("done", None, ((0, 0), (0, 0), ((0, 0),)), 2 + 300 * 7 + 1, 1))
        self.assertEqual(run(made(("back",))), ("fault", None, ((0, 0), (0, 0), ((0, 0),)), 0, 0))
        self.assertEqual(run(made(("call", 1), ("back",))), ("fault", None, ((0, 0), (0, 0), ((0, 0),)), 4, 1))

    def test_faults(self):
        far = put(1, FAR)
        rows = [("plus", 0, 1, 1), ("minus", 0, 2, 1), ("times", 0, 1, 1), ("row", 1), ("row", 2), ("row", 3),
                ("of", "up", 0, 1), ("fplus", "near", 0, 1, 1), ("fminus", "cut", 0, 2, 1), ("ftimes", "up", 0, 1, 1),
                ("back",)]
        for row in rows:
            code = made(far, put(2, -5), put(3, 3), ("value", 1, (7, 2)), ("value", 2, (-7, 2)), ("store", 0, 2),
                        row, put(0, 1), ("store", 1, 0), END)
            self.assertEqual(run(code), ("fault", None, ((-5, 0), (0, 0), ((0, 0),)), 7, 0))
        self.assertEqual(run(made(put(0, 1), ("row", 0))), ("fault", 1, ((0, 0), (0, 0), ((0, 0),)), 3, 0))
        self.assertEqual(run(made(put(0, 5), ("store", 1, 0))), ("fault", None, ((0, 5), (0, 0), ((0, 0),)), 3, 0))
        kept = made(far, ("copy", 2, 1), ("minus", 3, 1, 2), ("store", 0, 3), ("store", 1, 2), END)
        self.assertEqual(run(kept)[2][0], (0, FAR))

    def test_late(self):
        self.assertEqual(run(made(("go", 0))), ("late", None, ((0, 0), (0, 0), ((0, 0),)), 100001, 0))
        slow = made(("of", "up", 0, 0), ("go", 0))
        self.assertEqual(run(slow), ("late", None, ((0, 0), (0, 0), ((0, 0),)), 100004, 0))
        # Just 100000 beats are let; of more what was done stays, an end too comes too late.
        for more, word in [(2, "done"), (3, "late"), (4, "late")]:
            rows = (put(1, 1), put(2, 33331), ("plus", 0, 0, 1), ("less", 0, 2, 2)) + (put(3, 2),) * more
            code = made(*rows, ("store", 0, 0), END)
            beats = 100000 if more == 2 else 100001
            self.assertEqual(run(code), (word, None, ((33331, 0), (0, 0), ((0, 0),)), beats, 0))

    def test_stands_one_behind_another(self):
        code = made(("load", 0, 0), put(1, 1), ("plus", 0, 0, 1), ("store", 0, 0), ("load", 2, 4), ("plus", 2, 2, 0),
                    ("store", 4, 2), ("store", 1, 2), ("store", 3, 0), END)
        stand = ((0, 0), (5, 6), ((1, 0),))
        for many in range(1, 4):
            stand = ran(code, stand, READING, ())[2]
            self.assertEqual(stand, ((many, many), (5, many), ((1, 0),)))

    def test_errors_in_order(self):
        code, right = made(END), ((FAR, -FAR), (1, 2), ((7, 2),))
        wrong = [list(right), right[:2], ((1,), (1, 2), ((7, 2),)), ((1, 2), (1,), ((7, 2),)), ((1, 2), (1, 2), ()),
                 ((1, True), (1, 2), ((7, 2),)), ((1, FAR + 1), (1, 2), ((7, 2),)), ((1, 2), (1, 2), ((9, 0),)),
                 ((1, 2), (1, 2), (7,)), ((1, 2), [1, 2], ((7, 2),)), ((1, 2), (1, -FAR - 1), ((7, 2),))]
        for stand in wrong + support.junk():
            with self.assertRaises(NoStand):
                ran(code, stand, None, None)
        for reading in [(1, 2), (1, 2, 7), (1, 2, None), (1, 2, True), (True, 1, 0), (FAR + 1, 0, 0), [1, 2, 3],
                        (1, 2, 3, 4)] + [one for one in support.junk() if one != (1, 2, 3)]:
            with self.assertRaises(NoReading):
                ran(code, right, reading, None)
        for knocks in [(0,) * 21, (1, 0), (0, 2, 1), (-1,), (True,), (0, False), [0], None, (None,), ("0",), ((0,),),
                       (0, 1.5)] + [one for one in support.junk() if not (type(one) is tuple and all(
                           type(item) is int for item in one) and len(one) < 20)]:
            with self.assertRaises(NoKnocks):
                ran(code, right, READING, knocks)
        for knocks in [(), (0,) * 20, tuple(range(20)), (10 ** 199,), (0, 0, 5, 5, 10 ** 199)]:
            self.assertEqual(ran(code, right, READING, knocks), ("done", None, right, 1, 0))


class KnocksTest(unittest.TestCase):
    # The handler adds 1 to the knock cell 2, and takes registers that it does not put back.
    handler = (("load", 0, 2), put(1, 1), ("plus", 0, 0, 1), ("store", 2, 0), ("value", 0, (1, 0)), ("back",))

    def knocked(self, *rows, handler=None):
        return made(*rows, *(handler or self.handler), handler=len(rows))

    def many(self, code, knocks):
        word, row, stand, beats, deep = run(code, knocks)
        return stand[1][0]

    def test_at_each_moment(self):
        code = self.knocked(put(0, 2), put(1, 5), ("value", 0, (3, 0)), ("row", 0), ("store", 0, 1), ("fstore", 0, 0), END)
        quiet = run(code)
        self.assertEqual(quiet, ("done", 2, ((5, 0), (0, 0), ((3, 0),)), 3 + 2 + 2 + 2 + 1, 0))
        for knocks, come in [((0,), 1), ((1,), 1), ((5,), 1), ((6,), 0), ((7,), 0), ((10 ** 199,), 0), ((0, 0), 2),
                             ((0, 1, 2, 3, 4, 5), 6), ((3,) * 20, 20), ((5, 5, 6, 6), 2), ((0, 6), 1)]:
            word, row, stand, beats, deep = run(code, knocks)
            self.assertEqual((word, row, beats, deep), (quiet[0], quiet[1], quiet[3], quiet[4]))
            self.assertEqual(stand, ((5, 0), (come, 0), ((3, 0),)))

    def test_ahead_of_faults_and_of_what_is_late(self):
        code = self.knocked(put(0, 9), ("row", 0), END)
        self.assertEqual([self.many(code, (at,)) for at in range(4)], [1, 1, 0, 0])
        self.assertEqual(run(code, (0, 1))[0], "fault")
        # No row is next behind the last one.
        rows = ("number", 0, 1), ("load", 0, 2), put(1, 1), ("plus", 0, 0, 1), ("store", 2, 0)
        last = Code(SHAPE, F, (2, 2, 2), (1, 1), rows, 1)
        self.assertEqual(run(last, (0,))[2][1], (2, 0))
        self.assertEqual(run(last, (5,)), ("fault", None, ((0, 0), (1, 0), ((0, 0),)), 7, 0))
        late = made(("go", 0), *self.handler, handler=1)
        self.assertEqual(run(late, (0, 99999, 100000, 100001)), ("late", None, ((0, 0), (3, 0), ((0, 0),)), 100001, 0))

    def test_calls_go_on_beside_the_handler(self):
        rows = (("call", 2), END, ("call", 4), ("back",), ("back",))
        code = self.knocked(*rows)
        for knocks in [(), (0,), (1, 2), (1, 1, 2, 3)]:
            self.assertEqual(run(code, knocks), ("done", None, ((0, 0), (len(knocks), 0), ((0, 0),)), 9, 2))
        full = tuple(("call", at + 1) for at in range(16)) + (END,)
        self.assertEqual(run(self.knocked(*full), (3, 15))[::4], ("done", 16))

    def test_what_ends_a_handler(self):
        first = (("load", 0, 2), put(1, 1), ("plus", 0, 0, 1), ("store", 2, 0))
        behind = (("plus", 0, 0, 1), ("store", 2, 0), ("back",))
        for row in [("back",), ("end",), ("call", 3), ("row", 2), ("times", 0, 3, 3), ("of", "up", 0, 3)]:
            code = self.knocked(put(5, 1), put(4, 2), ("store", 0, 5), END,
                                handler=first + (put(3, FAR), row) + behind)
            for knocks in [(1,), (2,)]:
                self.assertEqual(run(code, knocks), ("done", None, ((1, 0), (1, 0), ((0, 0),)), 5, 0))
        on = self.knocked(put(5, 1), put(4, 2), ("store", 0, 5), END, handler=first + behind)
        self.assertEqual(run(on, (1,))[2][1], (2, 0))
        # Behind the last row too.
        code = self.knocked(put(5, 1), END, handler=first)
        self.assertEqual(run(code, (0,))[2], ((0, 0), (1, 0), ((0, 0),)))

    def test_its_thousandth_row(self):
        for more in range(4):
            handler = (put(1, 1),) * (1 + more) + (("plus", 0, 0, 1), ("store", 2, 0), ("go", 4 + more))
            code = made(put(5, 1), put(5, 2), END, *handler, handler=3)
            # The store is done in each round of three rows that has two of those that are left.
            stored = (999 - 1 - more + 1) // 3
            self.assertEqual(run(code, (0,)), ("done", None, ((0, 0), (stored, 0), ((0, 0),)), 3, 0))
        straight = (put(1, 7),) * 998 + (("store", 2, 1), ("store", 3, 1), ("back",))
        self.assertEqual(run(self.knocked(put(0, 0), END, handler=straight), (0,))[2][1], (7, 0))
        self.assertEqual(run(self.knocked(put(0, 0), END, handler=(put(1, 7),) + straight), (0,))[2][1], (0, 0))

    def test_registers_and_the_next_row_are_put_aside(self):
        handler = tuple(put(at, 100 + at) for at in range(6)) + tuple(("value", at, (7, 0)) for at in range(4)) + (("go", 0),)
        rows = tuple(put(at, at) for at in range(6)) + tuple(("value", at, (1, at - 2)) for at in range(4))
        rows += tuple(("store", at, at) for at in range(6)) + tuple(("fstore", at, at) for at in range(4)) + (END,)
        code = Code(SHAPE, F, (6, 0, 0), (4, 0), rows + handler, len(rows))
        quiet = ran(code, ((0,) * 6, (), ((0, 0),) * 4), READING, ())
        self.assertEqual(quiet[2], (tuple(range(6)), (), tuple((1, at - 2) for at in range(4))))
        for at in range(len(rows) - 1):
            if at < 10:
                continue
            found = ran(code, ((0,) * 6, (), ((0, 0),) * 4), READING, (at,))
            self.assertEqual(found[:2] + found[3:], quiet[:2] + quiet[3:])

    def test_the_handler_finds_registers_as_they_are(self):
        code = self.knocked(put(2, 8), put(3, 9), END, handler=(("store", 2, 2), ("back",)))
        self.assertEqual([run(code, (at,))[2][1][0] for at in range(3)], [0, 8, 0])
        # What the last knock left in registers is gone.
        code = self.knocked(put(2, 8), END, handler=(("store", 2, 4), put(4, 6), ("back",)))
        self.assertEqual(run(code, (0, 0))[2][1][0], 0)


class ApartTest(unittest.TestCase):
    def test_loads_of_knock_cells(self):
        for rows, right in [
                ((("load", 0, 2), END), False), ((("load", 0, 3), END), False), ((("load", 0, 1), END), True),
                ((("load", 0, 4), END), True), ((END, ("load", 0, 2)), True), ((("go", 2), ("load", 0, 2), END), True),
                ((("back",), ("load", 0, 2)), True), ((("less", 0, 0, 2), END, ("load", 0, 2), END), False),
                ((("same", 0, 0, 2), END, ("load", 0, 3), END), False),
                ((("below", 0, 0, 2), END, ("load", 0, 3), END), False),
                ((("call", 2), END, ("load", 0, 2), ("back",)), False),
                ((("call", 3), ("load", 0, 2), END, ("back",)), False), ((("row", 0), ("load", 0, 2), END), False),
                ((put(0, 1), ("load", 0, 2)), False), ((("store", 2, 0), END), True),
                ((("go", 0), ("load", 0, 2)), True), ((("less", 0, 0, 0), ("load", 0, 2)), False),
                ((("fload", 0, 0), END), True)]:
            code = made(*rows, ("end",), handler=len(rows))
            self.assertIs(is_apart(code), right, rows)

    def test_stores_of_the_handler(self):
        for main, handler, right in [
                ((END,), (("store", 0, 0), ("back",)), False), ((END,), (("store", 1, 0),), False),
                ((END,), (("store", 2, 0),), True), ((END,), (("store", 3, 0),), True),
                ((END,), (("store", 4, 0), ("load", 0, 4)), True), ((END,), (("load", 0, 0), ("load", 0, 2)), True),
                ((END,), (("fstore", 0, 0),), False), ((END,), (("fstore", 1, 0),), True),
                ((END,), (("fload", 0, 0),), True), ((("load", 0, 4), END), (("store", 4, 0),), False),
                ((("store", 4, 0), END), (("store", 4, 0),), False), ((("store", 4, 0), END), (("load", 0, 4),), True),
                ((("store", 5, 0), END), (("store", 4, 0),), True), ((("store", 2, 0), END), (("store", 2, 0),), False),
                ((("store", 2, 0), END), (("store", 3, 0),), True), ((("fload", 0, 1), END), (("fstore", 1, 0),), False),
                ((("fstore", 1, 0), END), (("fstore", 1, 0),), False), ((("load", 0, 1), END), (("fstore", 1, 0),), True),
                ((("fload", 0, 1), END), (("store", 3, 0),), True), ((END, ("load", 0, 4)), (("store", 4, 0),), True),
                ((END,), (("call", 3), ("store", 0, 0), END, ("store", 0, 0)), True),
                ((END,), (("row", 0), ("store", 0, 0)), True), ((END,), (END, ("store", 0, 0)), True),
                ((END,), (("back",), ("store", 0, 0)), True), ((END,), (("go", 3), END, ("store", 0, 0)), False),
                ((END,), (("less", 0, 0, 3), END, ("store", 0, 0)), False),
                ((END,), (("below", 0, 0, 2), ("store", 0, 0)), False),
                ((END,), (("same", 0, 0, 3), ("back",), ("store", 1, 0)), False), ((END,), (("go", 0), ("store", 0, 0)), True)]:
            self.assertIs(is_apart(made(*main, *handler, handler=len(main))), right, (main, handler))

    def test_rows_of_both(self):
        self.assertIs(is_apart(made(("store", 4, 0), END, handler=0)), False)
        self.assertIs(is_apart(made(put(0, 1), END, handler=0)), True)
        self.assertIs(is_apart(made(("row", 0), ("store", 0, 0), END, handler=0)), True)
        self.assertIs(is_apart(made(("load", 0, 4), ("store", 5, 0), END, handler=0)), False)

    def test_by_chance(self):
        told = {True: 0, False: 0}
        for at in range(800):
            code = Code(*some_code(random.Random(20000 + at)))
            right = self.right(code)
            self.assertIs(is_apart(code), right)
            told[right] += 1
        self.assertGreater(min(told.values()), 100)

    def come_to(self, code, number, stops):
        """All rows that can be come to, by going on until none is new."""
        found, many = {number}, 0
        while many != len(found):
            many = len(found)
            for at in sorted(found):
                word = code.rows[at][0]
                if word not in stops and word in ("go", "less", "same", "below", "call"):
                    found.add(code.rows[at][-1])
                if word not in stops + ("go",) and at + 1 < len(code.rows):
                    found.add(at + 1)
        return [code.rows[at] for at in sorted(found)]

    def right(self, code):
        main = self.come_to(code, 0, ("back", "end"))
        handler = self.come_to(code, code.handler, ("back", "end", "call", "row"))
        kept, knocks, _ = code.cells
        named = {("c", row[2]) for row in main if row[0] == "load"} | {("c", row[1]) for row in main if row[0] == "store"}
        named |= {("d", row[2]) for row in main if row[0] == "fload"}
        named |= {("d", row[1]) for row in main if row[0] == "fstore"}
        if any(row[0] == "load" and kept <= row[2] < kept + knocks for row in main):
            return False
        stored = {("c", row[1]) for row in handler if row[0] == "store"}
        stored |= {("d", row[1]) for row in handler if row[0] == "fstore"}
        lasting = {("c", at) for at in range(kept)} | {("d", at) for at in range(code.forms[0])}
        return not stored & (named | lasting)

    def test_the_fact_of_the_window(self):
        """Of code that is apart all but knock cells hang on stand and reading alone, whenever knocks come."""
        many = come = 0
        for at in range(1500):
            chance = random.Random(30000 + at)
            code = Code(*some_code(chance))
            if not is_apart(code):
                continue
            stand, reading = some_stand(chance, code), some_reading(chance, code.shape)
            quiet = ran(code, stand, reading, ())
            for _ in range(4):
                knocks = tuple(sorted(chance.choices(range(6), k=chance.randint(1, 5))))
                other = (stand[0], tuple(chance.choice((0, 1, FAR)) for _ in stand[1]), stand[2])
                word, row, behind, beats, deep = ran(code, other, reading, knocks)
                self.assertEqual((word, row, beats, deep), quiet[:2] + quiet[3:])
                self.assertEqual(behind[::2], quiet[2][::2])
                come += behind[1] != other[1]
                many += 1
        self.assertGreater(many, 600)
        self.assertGreater(come, 10)


if __name__ == "__main__":
    unittest.main()
