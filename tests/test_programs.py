"""Promises 7.1 to 7.3: programs, and their walking."""

import copy
import random
import unittest

from steadycraft.dyads import Format
from steadycraft.errors import BadProgram, NoReading, NoStand
from steadycraft.programs import Program, first_stand, handled, walked
from tests import support
from tests.programming import first_wrong, slowly_handled, slowly_walked, some_program, some_reading, some_stand

FAR = 10 ** 9
F = Format(3, -2, 2)
SHAPE = (2, True, 3)
NAME, ONE = ("name", "a"), ("number", 1)
SET = ("set", "a", ONE)


def made(shape=SHAPE, form=F, kept=(), knocks=(), forms=(), bodies=((),), handler=()):
    return Program(shape, form, kept, knocks, forms, bodies, handler)


def in_body(*statements):
    return {"bodies": (statements,)}


def deep_expression(deep):
    found = ONE
    for _ in range(deep - 1):
        found = ("plus", ONE, found)
    return found


def wide_expression(many):
    """An expression of so many parts, an odd number, few of them within one another."""
    if many == 1:
        return ONE
    half = (many - 1) // 2
    half += 1 - half % 2
    return ("plus", wide_expression(half), wide_expression(many - 1 - half))


def deep_body(deep, wrap):
    """So many bodies within one another."""
    found = ()
    for _ in range(deep - 1):
        found = (wrap(found),)
    return found


def deep_test(deep):
    found = ("same", ONE, ONE)
    for _ in range(deep - 1):
        found = ("not", found)
    return found


class ProgramTest(unittest.TestCase):
    def bad(self, part, **told):
        with self.assertRaises(BadProgram) as caught:
            made(**told)
        self.assertEqual(caught.exception.part, part)

    def test_parts_in_their_order(self):
        wrong = [("shape", (2, True)), ("form", None), ("kept", ["a"]), ("knocks", ("yes",)), ("forms", ("b", "a")),
                 ("bodies", ()), ("handler", None)]
        for at, (part, _) in enumerate(wrong):
            self.bad(part, **dict(wrong[at:]))
        self.bad(("body", 0), bodies=(None, None), handler=None)
        self.bad(("body", 1), bodies=((), None, None), handler=None)
        self.bad("handler", bodies=((("rounds", 20, (("rounds", 20, (SET,) * 60),)),),), handler=None)
        self.bad("long", bodies=((("rounds", 20, (("rounds", 20, (SET,) * 60),)),),))

    def test_attributes_and_equality(self):
        told = dict(kept=("a", "b"), knocks=("k",), forms=("a",), bodies=((SET,), ()), handler=(("set", "k", ONE),))
        program = made(**told)
        for name, value in dict(told, shape=SHAPE, form=F).items():
            self.assertEqual(getattr(program, name), value)
        self.assertTrue(program == made(**told))
        self.assertFalse(program != made(**told))
        self.assertEqual(copy.deepcopy(program), program)
        for part, value in [("shape", (3, True, 3)), ("shape", (2, False, 3)), ("form", Format(4, -2, 2)),
                            ("kept", ("a",)), ("knocks", ("k", "l")), ("forms", ()), ("bodies", ((SET,),)),
                            ("handler", ())]:
            other = made(**dict(told, **{part: value}))
            self.assertFalse(program == other)
            self.assertTrue(program != other)
        for thing in support.junk():
            self.assertFalse(program == thing)
            self.assertTrue(program != thing)

    def test_shape_and_form(self):
        for shape in [(1, False, 1), (3, True, 5), (2, True, 1)]:
            self.assertEqual(made(shape=shape).shape, shape)
        for shape in [(0, True, 3), (4, True, 3), (2, 1, 3), (2, None, 3), (2, True, 0), (2, True, 6), (True, True, 3),
                      (2, True, True), [2, True, 3], (2, True), (2, True, 3, 0)] + support.junk():
            self.bad("shape", shape=shape)
        for form in [None, "F", (3, -2, 2)] + [one for one in support.junk() if type(one) is not Format]:
            self.bad("form", form=form)

    def test_names(self):
        for part in ("kept", "knocks", "forms"):
            for names in [(), ("a",), ("abcdefgh",), ("a", "aa", "ab", "b", "no" + "t", "yess"), ("z",)]:
                self.assertEqual(getattr(made(**{part: names}), part), names)
            for names in [["a"], ("b", "a"), ("a", "a"), ("A",), ("a1",), ("",), ("abcdefghi",), ("yes",), ("no",),
                          ("a", "no"), (b"a",), (1,), (None,), (("a",),), "a", ("a b",), ("a\n",)] + [
                              one for one in support.junk() if one != ()]:
                self.bad(part, **{part: names})
        self.bad("knocks", kept=("a", "b"), knocks=("b", "c"))
        self.assertEqual(made(kept=("a",), forms=("a",), knocks=("b",)).forms, ("a",))
        self.assertEqual(made(knocks=("a",), forms=("a",)).forms, ("a",))
        many = tuple("abc"[at // 400] + "abcdefghijklmnopqrst"[at // 20 % 20] + "abcdefghijklmnopqrst"[at % 20]
                     for at in range(1200))
        self.assertEqual(made(kept=many[:600], knocks=many[600:]).knocks, many[600:])

    def test_how_many_bodies(self):
        self.assertEqual(len(made(bodies=((),) * 10).bodies), 10)
        for bodies in [(), ((),) * 11, [()], None, {}]:
            self.bad("bodies", bodies=bodies)
        for thing in support.junk():
            if type(thing) is not tuple or not 1 <= len(thing) <= 10:
                self.bad("bodies", bodies=thing)
            if thing != ():
                self.bad(("body", 0), bodies=(thing,))
                self.bad(("body", 1), bodies=((), thing))
                self.bad("handler", handler=thing)
                self.bad(("body", 0), **in_body(thing))
                self.bad("handler", handler=(thing,))

    def test_calls_to_greater_numbers(self):
        made(bodies=((("call", 1), ("call", 2)), (("call", 2),), ()))
        for at, number in [(0, 0), (1, 0), (1, 1), (2, 2), (2, 1), (0, 3), (2, 3), (0, -1), (0, True), (1, None)]:
            bodies = tuple((("call", number),) if one == at else () for one in range(3))
            self.bad(("body", at), bodies=bodies)

    def test_twelve_bodies_within_one_another(self):
        leaf = ("same", ONE, ONE)
        for wrap in [lambda body: ("if", leaf, body, ()), lambda body: ("if", leaf, (), body),
                     lambda body: ("choose", ONE, ((1, body),), ()), lambda body: ("choose", ONE, ((1, ()),), body),
                     lambda body: ("rounds", 1, body)]:
            made(bodies=((), deep_body(12, wrap)))
            self.bad(("body", 1), bodies=((), deep_body(13, wrap)))
            self.bad(("body", 0), bodies=(deep_body(13, wrap),))
            made(handler=deep_body(12, wrap))
            self.bad("handler", handler=deep_body(13, wrap))
            self.bad(("body", 0), bodies=(deep_body(40, wrap),))

    def test_six_tests(self):
        both = ("both", ("either", deep_test(4), ("same", ONE, ONE)), ("less", ONE, ONE))
        for test in (deep_test(6), both, ("both", ("less", ONE, ONE), deep_test(5)), ("either", deep_test(5), both[2])):
            made(**in_body(("if", test, (), ())))
        for test in (deep_test(7), ("not", ("not", both)), ("not", both, both), ("both", both), ("not",), None, (),
                     ("either", both, None), ["same", ONE, ONE], ("both", ("less", ONE, ONE), deep_test(6))):
            self.bad(("body", 0), **in_body(("if", test, (), ())))

    def test_sixty_parts(self):
        self.assertEqual(repr(wide_expression(59)).count("'"), 118)
        for statement in [lambda e: ("set", "a", e), lambda e: ("row", e), lambda e: ("choose", e, ((0, ()),), ()),
                          lambda e: ("form", "a", ("of", "up", e))]:
            made(**in_body(statement(wide_expression(59))))
            self.bad(("body", 0), **in_body(statement(wide_expression(61))))
        made(**in_body(("form", "a", ("of", "up", wide_expression(59)))))
        self.bad(("body", 0), **in_body(("form", "a", ("least", ("of", "up", wide_expression(59)), ("form", "a")))))
        # Of an if all leaves together: 2 leaves, 58 parts within them.
        for many, right in [(55, True), (57, False)]:
            test = ("both", ("less", ONE, wide_expression(many)), ("not", ("same", ONE, ONE)))
            if right:
                made(**in_body(("if", test, (SET,) * 100, ())))
                made(handler=(("if", test, (), ()),))
            else:
                self.bad(("body", 0), **in_body(("if", test, (), ())))
                self.bad("handler", handler=(("if", test, (), ()),))
        def some_leaves(many):
            if many == 1:
                return ("same", ONE, ONE)
            return ("either", some_leaves(many - many // 2), some_leaves(many // 2))

        made(**in_body(("if", some_leaves(20), (), ())))
        self.bad(("body", 0), **in_body(("if", some_leaves(21), (), ())))
        # A case's number and the bodies within count by themselves.
        made(**in_body(("choose", wide_expression(59), tuple((at, (("row", wide_expression(59)),)) for at in range(9)), ())))

    def test_thirty_deep(self):
        for statement in [lambda e: ("set", "a", e), lambda e: ("row", e),
                          lambda e: ("if", ("less", e, ONE), (), ()), lambda e: ("if", ("same", ONE, e), (), ())]:
            made(**in_body(statement(deep_expression(29))))
            self.bad(("body", 0), **in_body(statement(deep_expression(31))))
        made(**in_body(("set", "a", deep_expression(30))))
        made(**in_body(("if", ("less", deep_expression(29), ONE), (), ())))
        made(**in_body(("form", "a", ("of", "up", deep_expression(29)))))
        self.bad(("body", 0), **in_body(("form", "a", ("of", "up", deep_expression(30)))))
        form = ("form", "a")
        for _ in range(29):
            form = ("least", ("form", "a"), form)
        made(**in_body(("form", "a", form)))
        self.bad(("body", 0), **in_body(("form", "a", ("least", form, ("form", "a")))))
        # The first of both is as deep as the second.
        first = ONE
        for _ in range(30):
            first = ("times", first, ONE)
        self.bad(("body", 0), **in_body(("set", "a", first)))
        self.bad(("body", 0), **in_body(("if", ("not", ("same", first, ONE)), (), ())))

    def test_statements(self):
        right = [("set", "a", NAME), ("set", "abcdefgh", ("count", 0)), ("form", "a", ("form", "b")),
                 ("form", "a", ("value", (7, 2))), ("form", "a", ("value", (0, 0))), ("row", ("number", 99)),
                 ("rounds", 1, ()), ("rounds", 20, (SET,)), ("set", "a", ("number", FAR)), ("set", "a", ("number", -FAR)),
                 ("set", "a", ("lacks", 1)), ("set", "a", ("length",)), ("choose", ONE, ((-FAR, ()), (FAR, ())), ()),
                 ("choose", ONE, ((0, (SET,)),), (SET,)), ("form", "a", ("ftimes", "cut", ("form", "a"), ("form", "b"))),
                 ("form", "a", ("greatest", ("form", "a"), ("of", "far", NAME))),
                 ("if", ("below", ("form", "a"), ("form", "b")), (), ())]
        wrong = [("set", "yes", NAME), ("set", "no", NAME), ("set", "abcdefghi", ONE), ("set", "A", ONE), ("set", "a"),
                 ("set", "a", ("form", "a")), ("form", "a", NAME), ("form", "a", ("value", (7, 3))),
                 ("form", "a", ("value", (2, 0))), ("form", "a", ("value", (1, -3))), ("form", "a", ("value", (9, 0))),
                 ("form", "a", ("value", (True, 0))), ("form", "no", ("form", "a")), ("rounds", 0, ()), ("rounds", 21, ()),
                 ("rounds", True, ()), ("rounds", 2, [SET]), ("set", "a", ("number", FAR + 1)),
                 ("set", "a", ("number", -FAR - 1)), ("set", "a", ("number", True)), ("set", "a", ("count", 2)),
                 ("set", "a", ("lacks", -1)), ("set", "a", ("count", False)), ("set", "a", ("length", 0)),
                 ("choose", ONE, (), ()), ("choose", ONE, ((1, ()), (0, ())), ()), ("choose", ONE, ((1, ()), (1, ())), ()),
                 ("choose", ONE, ((FAR + 1, ()),), ()), ("choose", ONE, ((True, ()),), ()), ("choose", ONE, [(0, ())], ()),
                 ("choose", ONE, ((0, None),), ()), ("choose", ONE, ((0, ()),)), ("choose", ONE, ((0, ()),), None),
                 ("choose", ("form", "a"), ((0, ()),), ()), ("form", "a", ("fplus", "off", ("form", "a"), ("form", "a"))),
                 ("form", "a", ("least", "up", ("form", "a"), ("form", "a"))), ("form", "a", ("fplus", ("form", "a"), ("form", "a"))),
                 ("if", ONE, (), ()), ("if", ("less", ("form", "a"), ONE), (), ()), ("if", ("below", ONE, ONE), (), ()),
                 ("if", ("less", ONE, ONE), ()), ("row", ("form", "a")), ("row",), ("call", 0), ("number", 1), ("stop",), (),
                 ("set", "a", ("plus", ONE)), ("set", "a", ("plus", ONE, ONE, ONE)), ("set", "a", ("over", ONE, ONE)),
                 ("set", "a", ([1], 2)), ("set", "a", ({}, ONE, ONE)), ("if", ([], ONE, ONE), (), ()), ([], "a", ONE),
                 ("set", b"a", ONE), (("set",), "a", ONE), ("form", "a", ("name", "a")), ("row", ("less", ONE, ONE))]
        for statement in right:
            self.assertEqual(made(**in_body(statement)).bodies, ((statement,),))
        for statement in wrong:
            self.bad(("body", 0), **in_body(SET, statement))
        self.bad(("body", 0), shape=(2, False, 3), **in_body(("set", "a", ("length",))))
        self.bad(("body", 0), shape=(1, False, 3), **in_body(("set", "a", ("count", 1))))

    def test_handlers(self):
        knock = ("name", "k")
        right = [("set", "k", ("plus", knock, ONE)), ("if", ("not", ("less", knock, ONE)), (("set", "l", knock),), ()),
                 ("choose", knock, ((0, ()),), (("set", "k", ONE),)), ("rounds", 20, (("set", "k", ONE),))]
        wrong = [("set", "a", ONE), ("set", "k", NAME), ("row", ONE), ("call", 1), ("set", "k", ("count", 0)),
                 ("set", "k", ("lacks", 0)), ("set", "k", ("length",)), ("form", "k", ("form", "k")),
                 ("form", "a", ("value", (1, 0))), ("if", ("below", ("form", "k"), ("form", "k")), (), ()),
                 ("if", ("less", NAME, ONE), (), ()), ("rounds", 2, (("row", ONE),)), ("choose", NAME, ((0, ()),), ()),
                 ("choose", knock, ((0, (SET,)),), ()), ("set", "k", ("of", "up", knock))]
        for statement in right:
            self.assertEqual(made(knocks=("k", "l"), handler=(statement,)).handler, (statement,))
        for statement in wrong:
            self.bad("handler", kept=("a",), knocks=("k", "l"), bodies=((), ()), handler=(statement,))
        self.bad("handler", handler=(right[0],))

    def test_long(self):
        leaves = ("if", ("both", ("same", ONE, ONE), ("not", ("less", ONE, ONE))), (SET,), (SET, SET))
        for many in (20000, 20001):
            flat = (SET,) * many
            # 6 each, and a SET more or less; 20 rounds of 999 and 19 more.
            by_leaves = (leaves,) * 3333 + (SET,) * (many - 6 * 3333)
            by_rounds = (("rounds", 20, (SET,) * 999),) + (SET,) * (many - 1 - 20 * 999)
            by_calls = (("call", 1),) * 20 + (SET,) * (many - 20 * 900)
            for bodies, at in [((flat,), 0), ((by_leaves,), 0), ((by_rounds,), 0), (((), (), by_rounds), 2),
                               ((by_calls, (SET,) * 899), 0), (((), by_rounds), 1),
                               (((("choose", ONE, ((1, flat[:9000]), (2, flat[:5000])), flat[:many - 14001]),),), 0)]:
                if many == 20000:
                    self.assertEqual(made(bodies=bodies).bodies, bodies)
                else:
                    self.bad("long", bodies=bodies)
            handler = (("rounds", 20, (("set", "k", ONE),) * 999),) + (("set", "k", ONE),) * (many - 1 - 20 * 999)
            if many == 20000:
                made(knocks=("k",), handler=handler)
            else:
                self.bad("long", knocks=("k",), handler=handler)
        both = ("both", ("same", ONE, ONE), ("either", ("less", ONE, ONE), ("same", ONE, ONE)))
        for test in (both, ("not", both), ("either", both[2], both[1])):
            # An if of three leaves counts 4; the rounds themselves count 1.
            self.bad("long", bodies=((("rounds", 20, (("if", test, (), ()),) * 250),),))
            made(bodies=((("if", test, (), ()),) * 5000,))
            self.bad("long", bodies=((("if", test, (), ()),) * 5000 + (SET,),))
        twelve = deep_body(12, lambda body: ("rounds", 20, body))
        self.bad("long", bodies=(twelve,))
        calling = tuple((("call", at + 1),) * 20 for at in range(9)) + ((),)
        self.bad("long", bodies=calling)

    def test_against_the_words(self):
        told = {}
        for at in range(250):
            chance = random.Random(8000 + at)
            parts = some_program(chance)
            self.assertIsNone(first_wrong(*parts))
            Program(*parts)
            odd = ["yes", "a", "k", 0, 1, True, (), ONE, ("length",), ("count", 2), ("value", (1, 0)), "not"]
            for thing in support.changed(parts[5:], at, 20, odd) + support.changed(parts, at, 5, odd):
                other = parts[:5] + thing if type(thing) is tuple and len(thing) == 2 else thing
                if type(other) is not tuple or len(other) != 7:
                    continue
                wrong = first_wrong(*other)
                if wrong is None:
                    Program(*other)
                else:
                    with self.assertRaises(BadProgram) as caught:
                        Program(*other)
                    self.assertEqual(caught.exception.part, wrong)
                told[wrong] = told.get(wrong, 0) + 1
        self.assertGreater(min(told[None], told["handler"], told[("body", 0)], told[("body", 1)]), 50)


class StandTest(unittest.TestCase):
    program = made(kept=("a", "b"), knocks=("k",), forms=("x",), bodies=((SET,),))

    def test_first_stand(self):
        self.assertEqual(first_stand(self.program), ((0, 0), (0,), ((0, 0),)))
        self.assertEqual(first_stand(made()), ((), (), ()))

    def test_no_stand(self):
        right = ((FAR, -FAR), (7,), ((7, 2),))
        wrong = [list(right), right[:2], right + ((),), ((1,), (7,), ((7, 2),)), ((1, 2, 3), (7,), ((7, 2),)),
                 ([1, 2], (7,), ((7, 2),)), ((1, True), (7,), ((7, 2),)), ((1, None), (7,), ((7, 2),)),
                 ((1, FAR + 1), (7,), ((7, 2),)), ((1, -FAR - 1), (7,), ((7, 2),)), ((1, 2), (), ((7, 2),)),
                 ((1, 2), (7, 7), ((7, 2),)), ((1, 2), (FAR + 1,), ((7, 2),)), ((1, 2), (7,), ()),
                 ((1, 2), (7,), ((9, 0),)), ((1, 2), (7,), ((7, 3),)), ((1, 2), (7,), ((2, 0),)),
                 ((1, 2), (7,), (7,)), ((1, 2), (7,), ((1, 0), (1, 0))), ((1, 2), (7,), [(1, 0)])]
        self.assertEqual(walked(self.program, right, (1, 2, 3))[2], ((1, -FAR), (7,), ((7, 2),)))
        self.assertEqual(handled(self.program, right), right)
        for stand in wrong + support.junk():
            with self.assertRaises(NoStand):
                walked(self.program, stand, None)
            with self.assertRaises(NoStand):
                handled(self.program, stand)

    def test_no_reading(self):
        stand = first_stand(self.program)
        for reading in [(FAR, -FAR, 6), (None, None, 0)]:
            self.assertEqual(walked(self.program, stand, reading)[0], "done")
        for reading in [(1, 2), (1, 2, 7), (1, 2, -1), (1, 2, None), (1, 2, True), (True, 2, 1), (FAR + 1, 2, 1),
                        (1, -FAR - 1, 1), [1, 2, 3], (1, 2, 3, 4), ("1", 2, 3), (1, 2, (3,)), ()] + [
                            one for one in support.junk() if one != (1, 2, 3)]:
            with self.assertRaises(NoReading):
                walked(self.program, stand, reading)
        untold = made(shape=(1, False, 1))
        self.assertEqual(walked(untold, ((), (), ()), (None,)), ("done", None, ((), (), ())))
        for reading in [(None, 0), (), None]:
            with self.assertRaises(NoReading):
                walked(untold, ((), (), ()), reading)


class WalkedTest(unittest.TestCase):
    def test_against_the_words(self):
        told = {}
        for at in range(900):
            chance = random.Random(9000 + at)
            program = Program(*some_program(chance))
            stand = some_stand(chance, program)
            for _ in range(3):
                reading = some_reading(chance, program.shape)
                found = walked(program, stand, reading)
                self.assertEqual(found, slowly_walked(program, stand, reading))
                self.assertEqual(handled(program, stand), slowly_handled(program, stand))
                word, row, stand = found
                told[word, row is None] = told.get((word, row is None), 0) + 1
        self.assertGreater(min(told.values()), 20)

    def walk(self, *statements, kept=("a", "b"), stand=(5, 0), reading=(3, None, 2)):
        program = made(kept=kept, forms=("x",), bodies=(statements, (("set", "b", ("number", 9)),)))
        word, row, behind = walked(program, (stand, (), ((0, 0),)), reading)
        return word, row, behind[0], behind[2]

    def test_each_statement(self):
        for e, held in [(("number", -7), -7), (NAME, 5), (("name", "c"), 0), (("count", 0), 3), (("count", 1), 0),
                        (("lacks", 0), 0), (("lacks", 1), 1), (("length",), 2), (("plus", NAME, NAME), 10),
                        (("minus", ONE, NAME), -4), (("times", NAME, ("number", -2)), -10)]:
            self.assertEqual(self.walk(("set", "b", e)), ("done", None, (5, held), ((0, 0),)))
        for x, held in [(("value", (7, 2)), (7, 2)), (("form", "x"), (0, 0)), (("form", "y"), (0, 0)),
                        (("of", "up", ("number", 9)), (5, 1)), (("of", "down", ("number", 9)), (1, 3)),
                        (("fplus", "up", ("value", (7, 0)), ("value", (3, -2))), (1, 3)),
                        (("fminus", "cut", ("value", (7, 0)), ("value", (3, -2))), (3, 1)),
                        (("ftimes", "near", ("value", (3, 0)), ("value", (3, 0))), (1, 3)),
                        (("least", ("value", (3, 0)), ("value", (1, 2))), (3, 0)),
                        (("greatest", ("value", (3, 0)), ("value", (1, 2))), (1, 2)),
                        (("least", ("value", (1, 2)), ("value", (3, 0))), (3, 0)),
                        (("greatest", ("value", (1, 2)), ("value", (3, 0))), (1, 2)),
                        (("fplus", "down", ("value", (7, 0)), ("value", (3, -2))), (7, 0)),
                        (("fminus", "up", ("value", (7, 0)), ("value", (3, -2))), (7, 0)),
                        (("ftimes", "cut", ("value", (3, 0)), ("value", (3, 0))), (1, 3)),
                        (("ftimes", "up", ("value", (3, 0)), ("value", (3, 0))), (5, 1))]:
            self.assertEqual(self.walk(("form", "x", x)), ("done", None, (5, 0), (held,)))
        self.assertEqual(self.walk(("row", ("number", 2)), ("row", ONE)), ("done", 1, (5, 0), ((0, 0),)))
        self.assertEqual(self.walk(("rounds", 3, (("set", "b", ("plus", ("name", "b"), NAME)),)))[2], (5, 15))
        self.assertEqual(self.walk(("call", 1), ("set", "a", ("name", "b")))[2], (9, 9))
        for number, held in [(0, 7), (5, 8), (6, 9), (1, 9), (-5, 9)]:
            cases = ((0, (("set", "b", ("number", 7)),)), (5, (("set", "b", ("number", 8)),)))
            last = (("set", "b", ("number", 9)),)
            self.assertEqual(self.walk(("choose", ("number", number), cases, last))[2], (5, held))

    def test_each_test(self):
        four, five = ("value", (1, 2)), ("value", (5, 0))
        yes, no = ("same", ONE, ONE), ("less", ONE, ONE)
        for test, holds in [(("less", ONE, NAME), True), (("less", NAME, ONE), False), (no, False), (yes, True),
                            (("same", NAME, ONE), False), (("below", four, five), True), (("below", five, four), False),
                            (("below", four, four), False), (("not", yes), False), (("not", no), True),
                            (("both", yes, yes), True), (("both", yes, no), False), (("both", no, yes), False),
                            (("either", no, no), False), (("either", no, yes), True), (("either", yes, no), True)]:
            found = self.walk(("if", test, (("set", "b", ONE),), (("set", "b", ("number", 2)),)))
            self.assertEqual(found[2], (5, 1 if holds else 2))

    def test_the_other_is_looked_at_only_where_it_may_settle(self):
        beyond = ("less", ("times", ("number", FAR), ("number", 2)), ONE)
        yes, no = ("same", ONE, ONE), ("less", ONE, ONE)
        for test, word in [(("both", no, beyond), "done"), (("either", yes, beyond), "done"),
                           (("both", yes, beyond), "fault"), (("either", no, beyond), "fault"),
                           (("both", beyond, no), "fault"), (("either", beyond, yes), "fault"),
                           (("not", beyond), "fault"), (("not", ("both", no, beyond)), "done"),
                           (("either", ("both", no, beyond), yes), "done"), (("both", ("both", no, beyond), beyond), "done")]:
            found = self.walk(("set", "a", ("number", 8)), ("if", test, (), ()), ("set", "b", ONE))
            self.assertEqual((found[0], found[2]), (word, (8, 1 if word == "done" else 0)))

    def test_faults(self):
        far = ("number", FAR)
        ahead = (("set", "a", ("number", 8)), ("row", ONE), ("form", "x", ("value", (1, 0))))
        faults = [("set", "b", ("plus", far, ONE)), ("set", "b", ("minus", ("number", -FAR), ONE)),
                  ("set", "b", ("minus", ("times", far, ("number", 2)), far)),
                  ("set", "b", ("times", ("plus", far, far), ("number", 0))), ("row", ("number", 3)),
                  ("row", ("number", -1)), ("row", ("times", far, far)), ("form", "x", ("of", "near", ("number", 29))),
                  ("form", "x", ("of", "cut", far)),
                  ("form", "x", ("fplus", "down", ("value", (7, 2)), ("value", (1, 0)))),
                  ("form", "x", ("ftimes", "up", ("value", (7, 2)), ("value", (-7, 2)))),
                  ("form", "x", ("least", ("value", (0, 0)), ("of", "up", far))),
                  ("choose", ("plus", far, far), ((0, (("set", "b", ONE),)),), (("set", "b", ONE),)),
                  ("if", ("less", ("plus", far, far), ONE), (("set", "b", ONE),), (("set", "b", ONE),)),
                  ("if", ("below", ("form", "x"), ("of", "up", far)), (("set", "b", ONE),), (("set", "b", ONE),)),
                  ("rounds", 2, (("row", ("number", 9)), ("set", "b", ONE)))]
        for fault in faults:
            found = self.walk(*ahead, fault, ("set", "b", ("number", 4)), ("row", ("number", 2)))
            self.assertEqual(found, ("fault", 1, (8, 0), ((1, 0),)))
        self.assertEqual(self.walk(("set", "b", ("plus", ("number", FAR - 1), ONE)))[2], (5, FAR))
        self.assertEqual(self.walk(("set", "b", ("minus", ("number", 1 - FAR), ONE)))[2], (5, -FAR))
        self.assertEqual(self.walk(("form", "x", ("of", "cut", ("number", 28))))[3], ((7, 2),))
        # What was done within stays: in a second round, in a body that is called.
        found = self.walk(("rounds", 3, (("set", "b", ("plus", ("name", "b"), ONE)), ("row", ("name", "b")))))
        self.assertEqual(found, ("fault", 2, (5, 3), ((0, 0),)))

    def test_periods_one_behind_another(self):
        program = made(kept=("a",), bodies=((("set", "a", ("plus", NAME, ("name", "c"))), ("set", "c", ("number", 7)),
                                            ("set", "a", ("plus", NAME, ("name", "c"))), ("row", ("count", 0)),
                                            ("set", "a", ONE)),))
        stand = first_stand(program)
        for reading, told in [((1, 0, 0), ("done", 1, 1)), ((3, 0, 0), ("fault", None, 8)), ((2, 0, 0), ("done", 2, 1))]:
            word, row, stand = walked(program, stand, reading)
            self.assertEqual((word, row, stand[0][0]), told)

    def test_a_form_name_and_a_name_are_two(self):
        program = made(kept=("a",), forms=("a",), bodies=((SET, ("form", "a", ("of", "up", NAME)), ("set", "a", ("number", 4))),))
        self.assertEqual(walked(program, first_stand(program), (0, 0, 0)), ("done", None, ((4,), (), ((1, 0),))))

    def test_knocks_are_kept(self):
        program = made(knocks=("k",), bodies=((("set", "k", ("plus", ("name", "k"), ONE)),),))
        self.assertEqual(walked(program, ((), (4,), ()), (0, 0, 0)), ("done", None, ((), (5,), ())))

    def test_handled(self):
        knock = ("name", "k")
        handler = (("set", "k", ("plus", knock, ONE)), ("set", "l", ("times", knock, ("number", FAR))), ("set", "k", ONE))
        program = made(kept=("a",), knocks=("k", "l"), forms=("x",), handler=handler)
        self.assertEqual(handled(program, ((7,), (0, 3), ((1, 0),))), ((7,), (1, FAR), ((1, 0),)))
        # Up to its fault.
        self.assertEqual(handled(program, ((7,), (1, 3), ((1, 0),))), ((7,), (2, 3), ((1, 0),)))
        self.assertEqual(handled(program, ((7,), (FAR, 3), ((1, 0),))), ((7,), (FAR, 3), ((1, 0),)))

    def test_many_statements(self):
        body = (("rounds", 20, (("rounds", 20, (("set", "a", ("plus", NAME, ONE)),) * 47),)),)
        program = made(kept=("a",), bodies=(body,))
        self.assertEqual(walked(program, ((0,), (), ()), (0, 0, 0))[2], ((18800,), (), ()))


if __name__ == "__main__":
    unittest.main()
