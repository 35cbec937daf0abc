"""Promise 7.8: code that does what its program tells, with a good paper."""

import random
import unittest

from steadycraft.codes import Code
from steadycraft.compiling import compiled
from steadycraft.dyads import Format
from steadycraft.errors import TooMany
from steadycraft.papers import is_paper
from steadycraft.programs import Program, first_stand, handled, walked
from steadycraft.running import is_apart, ran
from tests import support
from tests.coding import slowly_ran
from tests.papering import all_parts, is_slow_paper
from tests.programming import slowly_walked, some_program, some_reading, some_stand

FAR = 10 ** 9
F = Format(3, -2, 2)
ONE, A = ("number", 1), ("name", "a")
SET = ("set", "a", ("plus", A, ONE))


def made(*bodies, kept=("a",), knocks=(), forms=("x",), handler=(), shape=(1, False, 3), form=F):
    return Program(shape, form, kept, knocks, forms, bodies, handler)


def rounds(many, *body):
    return ("rounds", many, body)


def names_knocks(program):
    """Whether some body names a knock."""
    return any(part[0] in ("set", "name") and part[1] in program.knocks for part in all_parts(program.bodies))


def spread(many, leaf, wrap):
    """A tree of so many leaves, all as deep as can be alike."""
    return leaf if many == 1 else wrap(spread(many // 2, leaf, wrap), spread(many - many // 2, leaf, wrap))


class CompiledTest(unittest.TestCase):
    def check(self, program, stands, readings):
        """The code does what the program tells from these stands, period by period, and its paper is good."""
        code, paper = compiled(program)
        self.assertIsInstance(code, Code)
        self.assertIs(is_paper(program, code, paper), True)
        self.assertTrue(names_knocks(program) or is_apart(code))
        words = set()
        for stand in stands:
            for reading in readings:
                told = walked(program, stand, reading)
                found = ran(code, stand, reading, ())
                words.add(found[0])
                if found[0] != "late":
                    self.assertEqual(found[:3], told)
                stand = told[2]
        return code, words

    def test_against_walked(self):
        told = {}
        for at in range(700):
            chance = random.Random(at)
            program = Program(*some_program(chance))
            code, paper = compiled(program)
            self.assertIs(is_paper(program, code, paper), True)
            self.assertEqual((code.shape, code.form), (program.shape, program.form))
            stand = chance.choice([first_stand(program), some_stand(chance, program)])
            for _ in range(4):
                reading = some_reading(chance, program.shape)
                found = walked(program, stand, reading)
                self.assertEqual(ran(code, stand, reading, ())[:3], found)
                told[found[0]] = told.get(found[0], 0) + 1
                stand = found[2]
        self.assertGreater(min(told.values()), 300)

    def test_against_slow_ones(self):
        for at in range(120):
            chance = random.Random(at)
            program = Program(*some_program(chance))
            code, paper = compiled(program)
            if len(code.rows) < 120:
                self.assertIs(is_slow_paper(program, code, paper), True)
                stand, reading = some_stand(chance, program), some_reading(chance, program.shape)
                self.assertEqual(slowly_ran(code, stand, reading, ())[:3], slowly_walked(program, stand, reading))

    def test_knocks(self):
        """Whenever knocks come, each does what handled tells, and all else is as without them."""
        many = 0
        for at in range(500):
            chance = random.Random(at)
            program = Program(*some_program(chance))
            if names_knocks(program) or program.handler == ():
                continue
            many += 1
            code, _ = compiled(program)
            self.assertTrue(is_apart(code))
            stand, reading = some_stand(chance, program), some_reading(chance, program.shape)
            quiet = ran(code, stand, reading, ())
            done = self.moments(program, stand, reading)
            for moments in [(moment,) for moment in range(done + 2)] + [(0, 0), (0, 1, 1), (0,) * 20, (done, done + 1)]:
                found = ran(code, stand, reading, moments)
                held = stand
                for _ in [moment for moment in moments if moment < done]:
                    held = handled(program, held)
                self.assertEqual(found[:2] + found[3:], quiet[:2] + quiet[3:])
                self.assertEqual(found[2], (quiet[2][0], held[1], quiet[2][2]))
        self.assertGreater(many, 60)

    def moments(self, program, stand, reading):
        """At how many moments knocks can come, by a handler that counts them."""
        name = program.knocks[0]
        counting = Program(program.shape, program.form, program.kept, program.knocks, program.forms, program.bodies,
                           (("set", name, ("plus", ("name", name), ONE)),))
        code, _ = compiled(counting)
        stand, moment = (stand[0], (0,) * len(stand[1]), stand[2]), 0
        while ran(code, stand, reading, (moment,))[2][1][0] == 1:
            moment += 1
        return moment

    def test_the_handler(self):
        k, l = ("name", "k"), ("name", "l")
        handler = (("set", "k", ("plus", k, ONE)), ("if", ("less", k, ("number", 3)), (rounds(2, ("set", "l", k)),),
                                                    (("choose", l, ((2, (("set", "l", ("times", l, l)),)),), ()),)))
        program = made((SET,), knocks=("k", "l"), handler=handler)
        code, words = self.check(program, [((1,), (0, 0), ((0, 0),))], [(0,)])
        stand = ((1,), (0, 0), ((0, 0),))
        for many in range(8):
            told = stand
            for _ in range(many):
                told = handled(program, told)
            self.assertEqual(ran(code, stand, (0,), (1,) * many)[2], ((2,), told[1], ((0, 0),)))
        # A handler that faults stays as it was then.
        program = made((SET,), knocks=("k",), handler=(("set", "k", ("number", FAR)), ("set", "k", ("plus", k, k))))
        self.assertEqual(ran(compiled(program)[0], ((1,), (0,), ((0, 0),)), (0,), (1,))[2], ((2,), (FAR,), ((0, 0),)))

    def test_bodies_that_name_knocks(self):
        program = made((("set", "a", ("name", "k")), ("set", "k", ("plus", ("name", "k"), ("count", 0)))), knocks=("k",),
                       handler=(("set", "k", ONE),))
        self.check(program, [((1,), (7,), ((0, 0),))], [(0,), (5,), (None,), (FAR,)])

    def test_great_integers(self):
        for word in ("plus", "minus", "times"):
            for one in (FAR, -FAR, 31623, 2, 0, -1):
                program = made((("set", "b", ("number", 4)), ("set", "a", (word, A, ("number", one))), ("row", ONE)))
                _, words = self.check(program, [((held,), (), ((0, 0),)) for held in (FAR, -FAR, 31622, 31623, 0, 1)],
                                      [(3,)])
                self.assertLessEqual(words, {"done", "fault"})
        program = made((("row", ("count", 0)), ("row", ("minus", A, ("lacks", 0)))))
        _, words = self.check(program, [((held,), (), ((0, 0),)) for held in range(-2, 5)],
                              [(count,) for count in (None, -1, 0, 1, 2, 3, FAR)])
        self.assertEqual(words, {"done", "fault"})

    def test_sums_beyond_the_format(self):
        x = ("form", "x")
        for way in support.WAYS:
            for word in ("fplus", "fminus", "ftimes"):
                program = made((("form", "x", (word, way, x, ("of", way, A))), ("set", "a", ("number", 3)),
                                ("if", ("below", x, ("value", (3, 1))), (("row", ONE),), (SET,))))
                _, words = self.check(program, [((held,), (), (dyad,)) for held in (0, 3, 9, 29, -28, 500)
                                                for dyad in ((0, 0), (7, 2), (-7, 2), (1, -2), (5, 1))], [(0,), (0,)])
                self.assertEqual(words, {"done", "fault"})

    def test_thirty_deep(self):
        for left in (False, True):
            e, x = A, ("form", "x")
            for at in range(29):
                ahead, word = e, ("plus", "minus")[at % 2]
                e = (word, e, ("number", at)) if left else (word, ("number", at), e)
                word = ("least", "greatest", "fplus", "ftimes", "fminus")[at % 5]
                pair = (x, ("value", (1, 0))) if left else (("value", (3, -1)), x)
                x = (word,) + (("near",) if word[0] == "f" else ()) + pair
            program = made((("set", "a", e), ("form", "x", x), ("if", ("less", ahead, A), (("row", ONE),), ())))
            self.check(program, [((held,), (), (dyad,)) for held in (0, -7, 1000) for dyad in ((0, 0), (3, 0), (-5, 1))],
                       [(0,)] * 3)

    def test_more_forms_than_registers(self):
        x, one = ("form", "x"), ("value", (1, -2))
        for many in (2, 4, 7, 8, 9, 15, 16, 17, 24, 28):
            for other in {1, 2, 8, 14, 16, 29 - many}:
                if other < 1 or many + other > 30:
                    continue
                sides = spread(many, x, lambda *both: ("fplus", "down") + both), spread(
                    other, one, lambda *both: ("greatest",) + both)
                for one_side, other_side in (sides, sides[::-1]):
                    body = [("form", "x", ("fminus", "near", one_side, other_side))]
                    if many + other < 30:
                        body.append(("if", ("below", one_side, other_side), (("row", ONE),), ()))
                    self.check(made(tuple(body)), [((0,), (), (dyad,)) for dyad in ((1, -2), (-1, -2), (3, 0), (0, 0))],
                               [(0,), (0,)])
        wide = spread(20, A, lambda *both: ("plus",) + both)
        self.check(made((("set", "a", ("minus", wide, ONE)), ("form", "x", spread(
            15, ("of", "up", A), lambda *both: ("least",) + both)))), [((2,), (), ((0, 0),))], [(0,), (0,)])

    def test_many_bodies(self):
        bodies = tuple((SET, ("call", at + 1), rounds(3, ("call", at + 1))) for at in range(5)) + (
            (SET, ("call", 7)), (SET,), (("if", ("same", A, ("number", 77)), (("row", ("number", 2)),), (SET,)),))
        code, _ = self.check(made(*bodies), [((0,), (), ((0, 0),)), ((FAR - 50,), (), ((0, 0),))], [(0,)] * 2)
        self.assertEqual(ran(code, ((0,), (), ((0, 0),)), (0,), ())[4], 6)
        # Nine within one another.
        deep = tuple((("call", at + 1), SET) for at in range(9)) + ((("row", ("number", 2)),),)
        self.check(made(*deep), [((0,), (), ((0, 0),))], [(0,)])

    def test_twenty_thousand_statements(self):
        sets = rounds(20, rounds(20, *(("set", "a", ("number", at)) for at in range(49))), rounds(10, ("row", ONE)))
        program = made((sets,))
        code, words = self.check(program, [((5,), (), ((0, 0),))], [(0,)])
        self.assertEqual(words, {"done"})
        calls = made((rounds(20, ("call", 1)),), (rounds(20, ("call", 2)),), (("rounds", 20, (SET, SET)),))
        code, words = self.check(calls, [((0,), (), ((0, 0),))], [(0,)])
        self.assertEqual(walked(calls, ((0,), (), ((0, 0),)), (0,))[2][0], (16000,))
        self.assertLess(len(code.rows), 1000)
        tests = rounds(20, rounds(20, rounds(12, ("if", ("less", A, ("number", 9)), (SET,), ()))))
        self.check(made((tests,)), [((0,), (), ((0, 0),))], [(0,)])

    def test_too_many_rows(self):
        wide = spread(12, ("plus", A, ("count", 0)), lambda *both: ("times",) + both)
        sums = tuple(("set", "a", ("minus", wide, ("number", at))) for at in range(49))
        program = made((rounds(20, rounds(20, *sums)),))
        with self.assertRaises(TooMany) as caught:
            compiled(program)
        self.assertEqual(caught.exception.most, 60000)
        cases = rounds(20, rounds(20, ("choose", A, tuple((at, ()) for at in range(160)), ())))
        with self.assertRaises(TooMany):
            compiled(made((cases,)))
        # Bodies have rows whether they are called or not.
        long = (rounds(20, rounds(20, *(("set", "a", ("number", at)) for at in range(49)))),)
        with self.assertRaises(TooMany):
            compiled(made(long, long))
        # As many rows as there can be: what is told fits, whatever it is.
        for many in (9900, 9990, 9999):
            body = (rounds(9, *(("set", "a", ONE),) * (many // 9)),)
            code, paper = compiled(made(body))
            self.assertLessEqual(len(code.rows), 60000)

    def test_equal_calls(self):
        for at in range(30):
            told = some_program(random.Random(at))
            one, other = compiled(Program(*told)), compiled(Program(*told))
            self.assertEqual(one, other)

    def test_edges(self):
        for program in [made(()), made((), ()), made((rounds(20, rounds(20)),)), made((("call", 1),), ()),
                        made((("if", ("same", A, A), (), ()),)), made((("choose", A, ((0, ()),), ()),)),
                        made((rounds(3, ("if", ("same", A, ONE), (rounds(2, SET),), (rounds(2),)), SET),)),
                        made((("row", ("number", 3)),)), made((SET, SET, ("row", ("number", -1)), SET)),
                        made((("set", "b", A), ("set", "c", ("name", "b"))), kept=("a", "c")),
                        made((("form", "y", ("form", "x")), ("form", "x", ("form", "z"))))]:
            self.check(program, [((held,) * len(program.kept), (), ((3, 0),)) for held in (0, 1, 5)], [(0,), (None,)])


if __name__ == "__main__":
    unittest.main()
