"""Promise 7.7: spots, and what comes behind them."""

import copy
import random
import unittest

from steadycraft.dyads import Format
from steadycraft.errors import NoAnswer, NoSpot
from steadycraft.programs import Program
from steadycraft.spots import begin, next_spot, spots
from tests import support
from tests.papering import Spots
from tests.programming import some_program

F = Format(3, -2, 2)
ONE = ("number", 1)
SET = ("set", "a", ONE)
LESS, SAME = ("less", ONE, ONE), ("same", ONE, ONE)
BELOW = ("below", ("value", (1, 0)), ("form", "x"))


def made(*bodies, handler=(), knocks=()):
    return Program((1, False, 2), F, (), knocks, (), bodies, handler)


def row_of(program, b, *answers):
    """The spots behind these answers, one behind another, from a begin on."""
    found = [begin(program, b)]
    for answer in answers:
        found.append(next_spot(program, found[-1], answer))
    return found


class SpotsTest(unittest.TestCase):
    def check_against_walks(self, program):
        slow = Spots(program)
        self.assertEqual(spots(program), sorted(slow.whats))
        for b, spot in slow.begins.items():
            self.assertEqual(begin(program, b), spot)
        for (spot, answer), behind in slow.behind.items():
            self.assertEqual(next_spot(program, spot, answer), behind)
        return slow

    def test_against_walks(self):
        told = {}
        for at in range(400):
            slow = self.check_against_walks(Program(*some_program(random.Random(at))))
            for what in slow.whats.values():
                told[what[0]] = told.get(what[0], 0) + 1
        self.assertGreater(min(told[word] for word in ("set", "form", "row", "call", "leaf", "case", "end")), 100)

    def test_plain_statements(self):
        program = made((SET, ("form", "x", ("form", "x")), ("row", ONE), ("call", 1), SET), (SET,))
        self.assertEqual(row_of(program, 0, None, None, None, None, None),
                         [(0, 0, 0), (0, 1, 0), (0, 2, 0), (0, 3, 0), (0, 4, 0), (0, 5, 0)])
        self.assertEqual(row_of(program, 1, None), [(1, 0, 0), (1, 1, 0)])
        self.assertEqual(row_of(program, -1), [(-1, 0, 0)])
        self.assertEqual(spots(program), [(-1, 0, 0), (0, 0, 0), (0, 1, 0), (0, 2, 0), (0, 3, 0), (0, 4, 0), (0, 5, 0),
                                          (1, 0, 0), (1, 1, 0)])

    def test_the_handler(self):
        program = made((), handler=(("set", "k", ONE), ("rounds", 2, (("set", "k", ONE),))), knocks=("k",))
        self.assertEqual(row_of(program, -1, None, None, None),
                         [(-1, 0, 0), (-1, 1, 0, 0, 0), (-1, 1, 1, 0, 0), (-1, 2, 0)])

    def test_leaves_are_looked_at_where_they_may_settle_the_test(self):
        # Leaves: 0 in not, 1 and 2 in both, 3 in either.
        test = ("either", ("both", ("not", LESS), ("both", SAME, BELOW)), SAME)
        program = made((("if", test, (SET,), (SET, SET)),))
        holds, fails = (0, 0, 0, 0, 0), (0, 0, 1, 0, 0)
        self.assertEqual(row_of(program, 0, False, True, True), [(0, 0, 0), (0, 0, 1), (0, 0, 2), holds])
        self.assertEqual(row_of(program, 0, True, True), [(0, 0, 0), (0, 0, 3), holds])
        self.assertEqual(row_of(program, 0, True, False), [(0, 0, 0), (0, 0, 3), fails])
        self.assertEqual(row_of(program, 0, False, False, False), [(0, 0, 0), (0, 0, 1), (0, 0, 3), fails])
        self.assertEqual(row_of(program, 0, False, True, False, True), [(0, 0, 0), (0, 0, 1), (0, 0, 2), (0, 0, 3), holds])
        self.assertEqual(next_spot(program, holds, None), (0, 1, 0))
        self.assertEqual(next_spot(program, fails, None), (0, 0, 1, 1, 0))

    def test_cases(self):
        program = made((("choose", ONE, ((-3, (SET,)), (2, ()), (5, (SET, SET))), (SET,)), ("row", ONE)))
        self.assertEqual(row_of(program, 0, True, None), [(0, 0, 0), (0, 0, 0, 0, 0), (0, 1, 0)])
        self.assertEqual(row_of(program, 0, False, True), [(0, 0, 0), (0, 0, 1), (0, 1, 0)])
        self.assertEqual(row_of(program, 0, False, False, True, None),
                         [(0, 0, 0), (0, 0, 1), (0, 0, 2), (0, 0, 2, 0, 0), (0, 0, 2, 1, 0)])
        self.assertEqual(row_of(program, 0, False, False, False, None),
                         [(0, 0, 0), (0, 0, 1), (0, 0, 2), (0, 0, 3, 0, 0), (0, 1, 0)])

    def test_rounds_and_empty_bodies(self):
        program = made((("rounds", 2, (("rounds", 3, ()), ("rounds", 2, (SET,)))), ("rounds", 20, ()),
                        ("if", LESS, (), ()), ("choose", ONE, ((1, ()),), ())))
        found = row_of(program, 0, None, None, None, None)
        self.assertEqual(found, [(0, 0, 0, 1, 0, 0, 0), (0, 0, 0, 1, 1, 0, 0), (0, 0, 1, 1, 0, 0, 0),
                                 (0, 0, 1, 1, 1, 0, 0), (0, 2, 0)])
        for answer in (True, False):
            self.assertEqual(next_spot(program, (0, 2, 0), answer), (0, 3, 0))
            self.assertEqual(next_spot(program, (0, 3, 0), answer), (0, 4, 0))
        self.assertEqual(begin(made((("rounds", 5, ()), ("rounds", 5, (("rounds", 20, ()),)))), 0), (0, 2, 0))
        self.assertEqual(begin(made(()), 0), (0, 0, 0))

    def test_an_if_at_the_end_of_a_round(self):
        program = made((("rounds", 2, (("if", LESS, (SET,), ()),)),))
        self.assertEqual(row_of(program, 0, True, None, False),
                         [(0, 0, 0, 0, 0), (0, 0, 0, 0, 0, 0, 0), (0, 0, 1, 0, 0), (0, 1, 0)])

    def test_twelve_bodies_deep(self):
        inner = (SET,)
        for _ in range(11):
            inner = (("if", LESS, (), inner),)
        program = made(inner)
        slow = self.check_against_walks(program)
        self.assertEqual(max(map(len, slow.whats)), 25)

    def test_no_spot(self):
        program = made((("rounds", 2, (SET,)), ("if", LESS, (SET,), ()), ("choose", ONE, ((1, ()),), (SET,)), SET),
                       (), handler=(("set", "k", ONE),), knocks=("k",))
        right = spots(program)
        ends = [(-1, 1, 0), (0, 4, 0), (1, 0, 0)]
        wrong = ends + [(0, 0, 0), (0, 0, 2, 0, 0), (0, 0, -1, 0, 0), (0, 0, 0, 1, 0), (0, 0, 0, 0, 1), (0, 1, 1),
                        (0, 1, -1), (0, 1, 1, 0, 0), (0, 1, 2, 0, 0), (0, 2, 1), (0, 2, 0, 0, 0), (0, 2, 2, 0, 0),
                        (0, 2, 1, 1, 0), (0, 3, 1), (0, 4, 1), (0, 5, 0), (0, -1, 0), (1, 0, 1), (2, 0, 0), (-2, 0, 0),
                        (0, 3, 0, 0, 0), (), (0,), (0, 3), (0, 3, 0, 0), [0, 3, 0], (0, 3, False), (False, 3, 0),
                        (0, True, 0), (0, 3, None), (0, 3, "0"), "030", b"\x00\x03\x00"]
        for thing in wrong + support.junk():
            for answer in [None, True, False, 7, [None]]:
                with self.assertRaises(NoSpot):
                    next_spot(program, thing, answer)
        wide = made((("choose", ONE, ((1, (SET,)),), (SET,)), ("if", LESS, (SET,), (SET,)), ("rounds", 2, (SET,))))
        for thing in [(0, 0, -1, 0, 0), (0, 0, 2, 0, 0), (0, 1, -1, 0, 0), (0, 1, 2, 0, 0), (0, 2, -1, 0, 0), (0, 2, 2, 0, 0),
                      (0, -1, 0, 0, 0), (0, -2, 0, 0, 0), (0, 0, 0, -1, 0), (0, 0, 0, 0, -1), (0, 3, 0, 0, 0)]:
            for answer in (None, True):
                with self.assertRaises(NoSpot):
                    next_spot(wide, thing, answer)
        for thing in support.changed((0, 2, 1, 0, 0), 3, 300) + support.changed((0, 0, 1, 0, 0), 4, 300):
            is_spot = type(thing) is tuple and all(type(one) is int for one in thing) and thing in right
            try:
                next_spot(program, thing, None)
            except NoSpot:
                self.assertTrue(not is_spot or thing in ends, thing)
            except NoAnswer:
                self.assertTrue(is_spot)
            else:
                self.assertTrue(is_spot and thing not in ends)

    def test_no_answer(self):
        program = made((SET, ("if", LESS, (), ()), ("choose", ONE, ((1, ()),), ()), ("call", 1), ("row", ONE)), ())
        for spot in [(0, 0, 0), (0, 3, 0), (0, 4, 0)]:
            for answer in [True, False] + [thing for thing in support.junk() if thing is not None]:
                with self.assertRaises(NoAnswer):
                    next_spot(program, spot, answer)
        for spot in [(0, 1, 0), (0, 2, 0)]:
            for answer in [None, 0, 1] + [thing for thing in support.junk() if type(thing) is not bool]:
                with self.assertRaises(NoAnswer):
                    next_spot(program, spot, answer)

    def test_new_each_time_and_ascending(self):
        for at in range(40):
            program = Program(*some_program(random.Random(at)))
            found = spots(program)
            self.assertIsInstance(found, list)
            self.assertEqual(found, sorted(set(found)))
            kept = list(found)
            found.clear()
            self.assertEqual(spots(copy.deepcopy(program)), kept)

    def test_many(self):
        body = (("rounds", 20, (("rounds", 20, (("rounds", 20, (SET, SET)),)),)),)
        self.assertEqual(len(spots(made(body))), 16002)
        wide = (("rounds", 20, (("choose", ONE, tuple((at, ()) for at in range(500)), ()),)),)
        self.assertEqual(len(spots(made(wide))), 10002)


if __name__ == "__main__":
    unittest.main()
