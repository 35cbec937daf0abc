"""Promise 7.8: papers, rule by rule."""

import random
import unittest

from steadycraft.codes import Code
from steadycraft.compiling import compiled
from steadycraft.dyads import Format
from steadycraft.papers import is_paper
from steadycraft.programs import Program
from tests import support
from tests.papering import Spots, is_slow_paper
from tests.programming import some_program

F = Format(3, -2, 2)
SHAPE = (2, True, 3)
ONE, TWO, A, B = ("number", 1), ("number", 2), ("name", "a"), ("name", "b")
X, Y = ("form", "x"), ("form", "y")
SUM = ("plus", A, ONE)
END, BACK = ("end",), ("back",)
AT, THEN, LAST = (0, 0, 0), (0, 1, 0), (0, 2, 0)
HANDLER_END = (-1, 0, 0)
R0, R1, R2, F0, F1, F2 = ("r", 0), ("r", 1), ("r", 2), ("f", 0), ("f", 1), ("f", 2)


def made(*statements, bodies=(), kept=(), knocks=(), forms=(), handler=(), shape=SHAPE):
    return Program(shape, F, kept, knocks, forms, (statements,) + bodies, handler)


def coded(program, rows, handler, more=0, form_more=0):
    return Code(program.shape, program.form, (len(program.kept), len(program.knocks), more),
                (len(program.forms), form_more), rows, handler)


def claimed(*rows):
    """Rows with their claims, lefts counted down at each spot: the tuple of both."""
    claims = []
    for at, row in enumerate(rows):
        spot, holds = row[1], row[2:]
        left = sum(other[1] == spot for other in rows[at + 1:])
        claims.append((spot, left, tuple(sorted(holds))))
    return tuple(row[0] for row in rows), tuple(claims)


class PaperCase(unittest.TestCase):
    def good(self, program, homes, *rows, more=0, form_more=0, last=((BACK, HANDLER_END),), handler=None):
        """A right paper, with a handler behind the rows; bent anyhow it is judged as slowly."""
        told, claims = claimed(*rows, *last)
        code = coded(program, told, len(rows) if handler is None else handler, more, form_more)
        paper = (homes, claims)
        self.assertIs(is_slow_paper(program, code, paper), True)
        self.assertIs(is_paper(program, code, paper), True)
        slow = Spots(program)
        for thing in support.changed(paper, 5, 150):
            self.assertIs(is_paper(program, code, thing), is_slow_paper(program, code, thing, slow), thing)
        self.otherwise(program, code, paper, slow)
        return code, paper

    def otherwise(self, program, code, paper, slow):
        """Each row in turn is changed for others."""
        chance = random.Random(len(code.rows))
        for at in range(len(code.rows)):
            for row in some_rows(chance, code, at):
                rows = code.rows[:at] + (row,) + code.rows[at + 1:]
                other = Code(code.shape, code.form, code.cells, code.forms, rows, code.handler)
                self.assertIs(is_paper(program, other, paper), is_slow_paper(program, other, paper, slow), row)

    def bad(self, program, code, paper):
        self.assertIs(is_slow_paper(program, code, paper), False)
        self.assertIs(is_paper(program, code, paper), False)


def some_rows(chance, code, at):
    """Rows near a row of code: of other numbers, of other words, and any others."""
    found = [END, BACK, ("go", at), ("go", min(at + 1, len(code.rows) - 1)), ("number", 0, 1), ("row", 0)]
    for thing in support.changed(code.rows[at], at, 25) + [("minus", 0, 0, 1), ("copy", 0, 1), ("copy", 1, 0),
                                                           ("less", 0, 1, at), ("same", 0, 1, at), ("call", at),
                                                           ("load", 0, 0), ("store", 0, 0), ("fload", 0, 0)]:
        if code.is_code_row(thing):
            found.append(thing)
    return chance.sample(found, min(12, len(found)))


class RulesTest(PaperCase):
    def test_ends(self):
        program = made()
        code, paper = self.good(program, ((), (), (), ()), (END, AT))
        self.assertEqual(paper, (((), (), (), ()), (((0, 0, 0), 0, ()), ((-1, 0, 0), 0, ()))))
        # The end of body 0 ends, those of others and of the handler go back.
        for rows in [(BACK, BACK), (END, END), (BACK, END)]:
            self.bad(program, coded(program, rows, 1), paper)
        program = made(bodies=((), ()))
        self.good(program, ((), (), (), ()), (END, AT), last=((BACK, (-1, 0, 0)), (BACK, (2, 0, 0))))

    def test_first_things(self):
        for thing, row in [(ONE, ("number", 0, 1)), (("count", 1), ("count", 0, 1)), (("lacks", 0), ("lacks", 0, 0)),
                           (("length",), ("length", 0))]:
            program = made(("row", thing))
            code, paper = self.good(program, ((), (), (), ()), (row, AT), (("row", 0), AT, (R0, thing)), (END, THEN))
            # What another register holds, or nothing, is not enough.
            for holds in [((R1, thing),), (), ((R0, TWO),)]:
                claims = paper[1][:1] + ((AT, 0, holds),) + paper[1][2:]
                self.bad(program, code, (paper[0], claims))
        program = made(("form", "x", ("value", (3, -1))))
        self.good(program, ((), (), (), (0,)), (("value", 3, (3, -1)), AT),
                  (("fstore", 0, 3), AT, (("f", 3), ("value", (3, -1)))), (END, THEN), form_more=1)

    def test_loads_and_stores_of_homes(self):
        program = made(("set", "b", A), ("form", "y", X), kept=("a",), knocks=("k",), forms=("x",))
        homes = ((0,), (1,), (3,), (0, 2))
        rows = [(("load", 0, 0), AT), (("store", 3, 0), AT, (R0, A)), (("fload", 1, 0), THEN),
                (("fstore", 2, 1), THEN, (F1, X)), (END, LAST)]
        code, paper = self.good(program, homes, *rows, more=2, form_more=2)
        for bent in [((0,), (1,), (2,), (0, 2)), ((0,), (1,), (3,), (0, 1)), ((0,), (1,), (3,), (2, 0)), homes[::-1],
                     ((0,), (1,), (3, 2), (0, 2)), ((0,), (1,), (), (0, 2)), ((0,), (2,), (3,), (0, 2)),
                     ((1,), (0,), (3,), (0, 2)), ((0,), (1,), (4,), (0, 2)), ((0,), (1,), (1,), (0, 2)),
                     ((0,), (1,), (3,), (0, 0)), ((0,), (1,), (3,), (0, 3)), ((0,), (1,), (3,), (0, -1)),
                     ((False,), (1,), (3,), (0, 2)), ((0,), (True,), (3,), (0, 2)), ([0], (1,), (3,), (0, 2))]:
            self.bad(program, code, (bent, paper[1]))
        for cells, forms in [((1, 2, 2), (1, 2)), ((2, 1, 2), (1, 2)), ((1, 1, 2), (2, 2)), ((1, 0, 3), (1, 2))]:
            self.bad(program, Code(SHAPE, F, cells, forms, code.rows, code.handler), paper)
        for cells, forms in [((1, 1, 9), (1, 2)), ((1, 1, 2), (1, 7))]:
            self.assertIs(is_paper(program, Code(SHAPE, F, cells, forms, code.rows, code.handler), paper), True)

    def test_homes_of_names_in_their_order(self):
        # Names ascending, the cells as they like; those of bodies that are never called, too.
        program = made(("set", "b", ONE), bodies=((("set", "c", A), ("form", "z", ("of", "up", ("name", "d"))),),))
        rows = [(("number", 0, 1), AT), (("store", 1, 0), AT, (R0, ONE)), (END, THEN)]
        code, paper = self.good(program, ((), (), (4, 1, 0, 2), (3,)), *rows, more=5, form_more=4)
        for homes in [((), (), (1, 4, 0, 2), (3,)), ((), (), (1,), (3,)), ((), (), (4, 1, 0), (3,)),
                      ((), (), (4, 1, 0, 2), ()), ((), (), (4, 1, 0, 2, 3), (3,))]:
            self.bad(program, code, (homes, paper[1]))

    def test_what_is_worked_out(self):
        for word in ("plus", "minus", "times"):
            thing = (word, A, ONE)
            whole = ("minus", thing, thing)
            program = made(("set", "b", whole), kept=("a",))
            rows = [(("load", 0, 0), AT), (("number", 1, 1), AT, (R0, A)), ((word, 2, 0, 1), AT, (R0, A), (R1, ONE)),
                    (("minus", 2, 2, 2), AT, (R2, thing)), (("store", 1, 2), AT, (R2, whole)), (END, THEN)]
            self.good(program, ((0,), (), (1,), ()), *rows, more=1)
        program = made(("set", "b", SUM), kept=("a",))
        homes = ((0,), (), (1,), ())
        rows = [(("load", 0, 0), AT), (("number", 1, 1), AT, (R0, A)), (("plus", 0, 0, 1), AT, (R0, A), (R1, ONE)),
                (("store", 1, 0), AT, (R0, SUM)), (END, THEN)]
        code, paper = self.good(program, homes, *rows, more=1)
        # What is not looked at, nor a part of it, can't be worked out: not even the other way round.
        for row, thing in [(("plus", 0, 1, 0), ("plus", ONE, A)), (("minus", 0, 0, 1), ("minus", A, ONE)),
                           (("plus", 0, 0, 0), ("plus", A, A))]:
            told = code.rows[:2] + (row,) + code.rows[3:]
            self.bad(program, coded(program, told, 5, 1), paper)
            claims = paper[1][:3] + ((AT, 0, ((R0, thing),)),) + paper[1][4:]
            self.bad(program, coded(program, told, 5, 1), (homes, claims))

    def test_what_forms_are_worked_out(self):
        for word, items in [("of", ("up", A)), ("fplus", ("near", X, Y)), ("fminus", ("cut", X, Y)),
                            ("ftimes", ("far", X, Y)), ("least", (X, Y)), ("greatest", (X, Y))]:
            thing = (word,) + items
            program = made(("form", "x", thing), kept=("a",), forms=("x", "y"))
            rows = [(("load", 4, 0), AT), (("fload", 0, 0), AT, (("r", 4), A)), (("fload", 1, 1), AT, (("r", 4), A), (F0, X))]
            row = (word,) + items[:-2] + (2, 0, 1) if word != "of" else ("of", "up", 2, 4)
            rows += [(row, AT, (("r", 4), A), (F0, X), (F1, Y)), (("fstore", 0, 2), AT, (F2, thing)), (END, THEN)]
            self.good(program, ((0,), (), (), (0, 1)), *rows)

    def test_least_and_greatest_of_what_is_not_looked_at(self):
        program = made(("form", "x", X), forms=("x", "y"))
        for word in ("least", "greatest"):
            rows = [(("fload", 0, 0), AT), (("fload", 1, 1), AT, (F0, X)), ((word, 2, 1, 0), AT, (F0, X), (F1, Y)),
                    (("fstore", 0, 0), AT, (F0, X), (F2, (word, Y, X))), (END, THEN)]
            self.good(program, ((), (), (), (0, 1)), *rows)
        rows = [(("fload", 0, 0), AT), (("fplus", "up", 1, 0, 0), AT, (F0, X)), (("fstore", 0, 0), AT, (F0, X)), (END, THEN)]
        told, claims = claimed(*rows, (BACK, HANDLER_END))
        self.bad(program, coded(program, told, 4), (((), (), (), (0, 1)), claims))

    def test_what_is_thirty_deep_is_held(self):
        rows, held = [(("fload", 0, 0), AT), (("fcopy", 1, 0), AT, (F0, X))], X
        for _ in range(29):
            rows.append((("least", 1, 0, 1), AT, (F0, X), (F1, held)))
            held = ("least", X, held)
        program = made(("form", "x", X), forms=("x",))
        last = [(("fstore", 0, 0), AT, (F0, X), (F1, held)), (END, THEN)]
        told, claims = claimed(*rows, *last, (BACK, HANDLER_END))
        self.assertIs(is_paper(program, coded(program, told, len(told) - 1), (((), (), (), (0,)), claims)), True)
        # What is one deeper comes to be, but is no form that a claim can tell.
        more = [(("least", 1, 0, 1), AT, (F0, X), (F1, held))]
        for holds, right in [(((F0, X),), True), (((F0, X), (F1, ("least", X, held))), False)]:
            told, claims = claimed(*rows, *more, (("fstore", 0, 0), AT, *holds), (END, THEN), (BACK, HANDLER_END))
            code = coded(program, told, len(told) - 1)
            self.assertIs(is_paper(program, code, (((), (), (), (0,)), claims)), right)
            self.assertIs(is_slow_paper(program, code, (((), (), (), (0,)), claims)), right)

    def test_what_is_moved(self):
        program = made(("set", "a", ONE), ("form", "x", X), kept=("a",), forms=("x",))
        c1, d1 = ("c", 1), ("d", 1)
        rows = [(("number", 0, 1), AT), (("store", 1, 0), AT, (R0, ONE)), (("load", 3, 1), AT, (c1, ONE)),
                (("copy", 2, 3), AT, (c1, ONE), (("r", 3), ONE)), (("store", 0, 2), AT, (R2, ONE), (c1, ONE)),
                (("fload", 0, 0), THEN, (c1, ONE)), (("fcopy", 1, 0), THEN, (F0, X)), (("fstore", 1, 1), THEN, (F1, X)),
                (("fload", 2, 1), THEN, (d1, X)), (("fstore", 0, 2), THEN, (F2, X), (d1, X)), (END, LAST)]
        self.good(program, ((0,), (), (), (0,)), *rows, more=1, form_more=1)
        # What is moved from where nothing is held leaves nothing.
        rows = [(("number", 0, 1), AT), (("number", 1, 2), AT, (R0, ONE)), (("copy", 1, 5), AT, (R0, ONE), (R1, TWO)),
                (("store", 0, 0), AT, (R0, ONE)), (END, THEN)]
        program = made(("set", "a", ONE), kept=("a",))
        code, paper = self.good(program, ((0,), (), (), ()), *rows)
        claims = paper[1][:3] + ((AT, 0, ((R0, ONE), (R1, TWO))),) + paper[1][4:]
        self.bad(program, code, (paper[0], claims))
        # Homes are held by no claim.
        claims = ((AT, 3, ((("c", 0), ONE),)),) + paper[1][1:]
        self.bad(program, code, (paper[0], claims))

    def test_stores_end_what_names_are_held_by(self):
        thing = ("of", "up", ("plus", A, ONE))
        program = made(("set", "a", ONE), ("form", "a", thing), ("set", "b", B), kept=("a", "b"), forms=("a",))
        homes = ((0, 1), (), (), (0,))
        rows = [(("number", 0, 1), AT), (("load", 2, 1), AT, (R0, ONE)), (("store", 0, 0), AT, (R0, ONE), (R2, B)),
                (("load", 3, 0), THEN, (R0, ONE), (R2, B)), (("plus", 3, 3, 0), THEN, (R0, ONE), (R2, B), (("r", 3), A)),
                (("of", "up", 0, 3), THEN, (R2, B), (("r", 3), ("plus", A, ONE))),
                (("fstore", 0, 0), THEN, (F0, thing), (R2, B)), (("store", 1, 2), LAST, (R2, B), (F0, thing)), (END, (0, 3, 0))]
        code, paper = self.good(program, homes, *rows)
        # Behind the store of a nothing holds what a is named in, a form of it neither; the form a is another one.
        program = made(("set", "a", ONE), ("set", "b", A), kept=("a", "b"), forms=("a",))
        for held, place, right in [(A, R2, False), (B, R2, True), (("form", "a"), F2, True), (("count", 0), R2, True),
                                   (("times", ONE, ("plus", A, ONE)), R2, False), (("of", "up", A), F2, False),
                                   (("least", ("form", "a"), ("of", "cut", ("minus", ONE, A))), F2, False),
                                   (("of", "up", B), F2, True)]:
            holds = tuple(sorted([(R0, ONE), (place, held)]))
            rows, claims = claimed((("number", 0, 1), AT), (("store", 0, 0), AT, (R0, ONE)), (("load", 0, 0), THEN),
                                   (("store", 1, 0), THEN, (R0, A)), (END, LAST), (BACK, HANDLER_END))
            # Nothing comes to this store, so it can hold whatever it likes.
            rows += (("store", 0, 0), ("go", 2))
            claims += ((AT, 0, holds), (THEN, 9, ((place, held),)))
            paper = (((0, 1), (), (), (0,)), claims)
            self.assertIs(is_paper(program, coded(program, rows, 5), paper), right)
            self.assertIs(is_slow_paper(program, coded(program, rows, 5), paper), right)

    def test_rows(self):
        program = made(("row", A), ("set", "a", A), kept=("a",))
        rows = [(("load", 5, 0), AT), (("row", 5), AT, (("r", 5), A)), (("store", 0, 5), THEN, (("r", 5), A)), (END, LAST)]
        code, paper = self.good(program, ((0,), (), (), ()), *rows)
        for row in [("row", 4), ("store", 0, 5), ("number", 0, 1)]:
            self.bad(program, coded(program, code.rows[:1] + (row,) + code.rows[2:], 4), paper)

    def test_leaves(self):
        for word, sides in [("less", (A, ONE)), ("same", (A, ONE)), ("below", (X, Y))]:
            program = made(("if", (word,) + sides, (("row", ONE),), ()), kept=("a",), forms=("x", "y"))
            homes = ((0,), (), (), (0, 1))
            loads = [(("load", 0, 0), AT), (("number", 1, 1), AT, (R0, A))] if word != "below" else [
                (("fload", 0, 0), AT), (("fload", 1, 1), AT, (F0, X))]
            held = [(R0, A), (R1, ONE)] if word != "below" else [(F0, X), (F1, Y)]
            rows = loads + [((word, 0, 1, 4), AT, *held), (END, THEN, *held), (("number", 0, 1), (0, 0, 0, 0, 0)),
                            (("row", 0), (0, 0, 0, 0, 0), (R0, ONE)), (END, THEN)]
            code, paper = self.good(program, homes, *rows)
            for row in [(word, 1, 0, 4), (word, 0, 1, 5), (word, 0, 1, 3), (word, 0, 0, 4),
                        ({"less": "same", "same": "less", "below": "less"}[word], 0, 1, 4)]:
                self.bad(program, coded(program, code.rows[:2] + (row,) + code.rows[3:], 7), paper)
            self.bad(program, coded(program, code.rows[:3] + (("go", 3),) + code.rows[4:], 7), paper)

    def test_cases(self):
        program = made(("choose", A, ((1, ()), (2, (("row", A),))), ()), kept=("a",))
        homes = ((0,), (), (), ())
        second, inner = (0, 0, 1), (0, 0, 1, 0, 0)
        rows = [(("load", 0, 0), AT), (("number", 1, 1), AT, (R0, A)), (("same", 0, 1, 5), AT, (R0, A), (R1, ONE)),
                (("number", 1, 2), second, (R0, A)), (("same", 0, 1, 6), second, (R0, A), (R1, TWO)),
                (END, THEN), (("row", 0), inner, (R0, A)), (END, THEN)]
        code, paper = self.good(program, homes, *rows)
        for at, row in [(2, ("same", 1, 0, 5)), (2, ("less", 0, 1, 5)), (2, ("same", 0, 1, 6)), (4, ("same", 0, 1, 5)),
                        (3, ("number", 1, 1)), (4, ("same", 0, 0, 6))]:
            self.bad(program, coded(program, code.rows[:at] + (row,) + code.rows[at + 1:], 8), paper)

    def test_calls(self):
        program = made(("call", 1), ("call", 2), bodies=((("row", ONE),), ()))
        rows = [(("call", 3), AT), (("call", 6), THEN), (END, LAST), (("number", 0, 1), (1, 0, 0)),
                (("row", 0), (1, 0, 0), (R0, ONE)), (BACK, (1, 1, 0)), (BACK, (2, 0, 0))]
        code, paper = self.good(program, ((), (), (), ()), *rows)
        for at, row in [(0, ("call", 6)), (1, ("call", 3)), (0, ("call", 4)), (0, ("go", 1)), (5, END), (2, BACK)]:
            self.bad(program, coded(program, code.rows[:at] + (row,) + code.rows[at + 1:], 7), paper)
        # Nothing is held at a begin, nor behind a call.
        for at in (1, 3):
            claim = paper[1][at]
            claims = paper[1][:at] + ((claim[0], claim[1], ((R2, ONE),)),) + paper[1][at + 1:]
            self.bad(program, code, (paper[0], claims))

    def test_goes_and_lefts(self):
        program = made(("row", ONE))
        told = (("go", 1), ("go", 4), END, BACK, ("number", 0, 1), ("row", 0), ("go", 2))
        code = coded(program, told, 3)

        def paper(*lefts):
            spots = [AT, AT, THEN, HANDLER_END, AT, AT, THEN]
            holds = [()] * 5 + [((R0, ONE),), ()]
            return (((), (), (), ()), tuple(zip(spots, lefts, holds)))

        for lefts in [(3, 2, 0, 0, 1, 0, 1), (9, 8, 0, 7, 6, 5, 4), (10 ** 199, 5, 3, 0, 2, 1, 4)]:
            self.assertIs(is_paper(program, code, paper(*lefts)), True)
            self.assertIs(is_slow_paper(program, code, paper(*lefts)), True)
        for lefts in [(2, 2, 0, 0, 1, 0, 1), (3, 1, 0, 0, 1, 0, 1), (3, 2, 0, 0, 0, 0, 1), (3, 2, 1, 0, 1, 0, 1),
                      (3, 2, -1, 0, 1, 0, 1), (3, 2, 0, True, 1, 0, 1), (3, 2, None, 0, 1, 0, 1)]:
            self.bad(program, code, paper(*lefts))
        # A go that leads to itself comes to no end.
        self.bad(made(), coded(made(), (("go", 0), BACK), 1), (((), (), (), ()), ((AT, 1, ()), (HANDLER_END, 0, ()))))

    def test_the_handler(self):
        program = made(knocks=("k",), handler=(("set", "k", ("plus", ("name", "k"), ONE)),))
        k, at, end = ("name", "k"), (-1, 0, 0), (-1, 1, 0)
        rows = [(END, AT)]
        last = [(("load", 0, 0), at), (("number", 1, 1), at, (R0, k)), (("plus", 0, 0, 1), at, (R0, k), (R1, ONE)),
                (("store", 0, 0), at, (R0, ("plus", k, ONE))), (BACK, end)]
        code, paper = self.good(program, ((), (0,), (), ()), *rows, last=last)
        for handler in (0, 2, 5):
            self.bad(program, coded(program, code.rows, handler), paper)
        self.bad(program, coded(program, code.rows[:5] + (END,), 1), paper)
        # The handler holds nothing at its begin.
        claims = paper[1][:1] + ((at, 3, ((R2, ONE),)),) + paper[1][2:]
        self.bad(program, code, (paper[0], claims))

    def test_cells_that_handler_and_others_share(self):
        program = made(("row", ONE), knocks=("k",), handler=(("set", "k", ONE),))
        homes = ((), (0,), (), ())
        for cell, others, right in [(1, 2, True), (1, 1, False), (2, 2, False), (2, 1, True)]:
            rows = [(("number", 0, 1), AT), (("store", cell, 0), AT, (R0, ONE)), (("row", 0), AT, (R0, ONE)), (END, THEN)]
            last = [(("number", 0, 1), (-1, 0, 0)), (("load", 1, others), (-1, 0, 0), (R0, ONE)),
                    (("store", 0, 0), (-1, 0, 0), (R0, ONE)), (BACK, (-1, 1, 0))]
            told, claims = claimed(*rows, *last)
            code = coded(program, told, 4, 2)
            self.assertIs(is_paper(program, code, (homes, claims)), right)
            self.assertIs(is_slow_paper(program, code, (homes, claims)), right)
        # Form cells and cells are two, though of one number; homes may be named by both.
        program = made(("row", ONE), ("set", "k", ONE), knocks=("k",), handler=(("set", "k", ONE),))
        rows = [(("number", 0, 1), AT), (("store", 1, 0), AT, (R0, ONE)), (("row", 0), AT, (R0, ONE)),
                (("store", 0, 0), THEN, (R0, ONE)), (END, LAST)]
        last = [(("fload", 1, 1), (-1, 0, 0)), (("number", 0, 1), (-1, 0, 0)), (("store", 0, 0), (-1, 0, 0), (R0, ONE)),
                (BACK, (-1, 1, 0))]
        self.good(program, homes, *rows, last=last, more=1, form_more=2)

    def test_rows_that_nothing_comes_to(self):
        program = made(("row", ONE), forms=("x",))
        rows = [(("number", 0, 1), AT), (("row", 0), AT, (R0, ONE)), (END, THEN)]
        told, claims = claimed(*rows, (BACK, HANDLER_END))
        odd = ("plus", ("name", "nowhere"), ("times", ("length",), ("count", 1)))
        for row, claim, right in [(("go", 0), None, True), (END, (THEN, 10 ** 199, ((R0, odd),)), True),
                                  (("go", 2), (THEN, 1, ((R0, odd),)), True), (("go", 2), (THEN, 0, ()), False),
                                  (("row", 3), (AT, 1, ((("r", 3), odd),)), False),
                                  (END, (THEN, 0, ((("d", 1), ("form", "nope")), (R0, odd), (R1, odd))), True),
                                  (END, (THEN, 0, ((R0, ("form", "x")),)), False), (END, (THEN, 0, ((F0, ONE),)), False),
                                  (END, (THEN, 0, ((R0, ("count", 2)),)), False), (END, (THEN, 0, ((("d", 0), X),)), False),
                                  (END, (THEN, 0, ((("d", 2), X),)), False), (END, (THEN, 0, ((("r", 6), ONE),)), False),
                                  (END, (THEN, 0, ((("r", -1), ONE),)), False), (END, (THEN, 0, ((("f", -1), X),)), False),
                                  (END, (THEN, 0, ((("f", 4), X),)), False), (END, (THEN, 0, ((R1, odd), (R0, odd))), False),
                                  (END, (THEN, 0, ((R0, odd), (R0, odd))), False), (END, (THEN, 0, [(R0, odd)]), False),
                                  (END, (THEN, 0), False), (END, (THEN, 0, (), ()), False), (END, (LAST, 0, ()), False),
                                  (END, ((0, 1, 1), 0, ()), False), (END, ([0, 1, 0], 0, ()), False)]:
            code = coded(program, told + (row,), 3, 0, 1)
            paper = (((), (), (), (0,)), claims + (claim,))
            self.assertIs(is_slow_paper(program, code, paper), right, claim)
            self.assertIs(is_paper(program, code, paper), right, claim)
        # The end of a body within another one is no spot.
        within = made(("if", ("less", ONE, ONE), (("row", ONE),), ()))
        code, (homes, claims) = compiled(within)
        for spot, right in [((0, 1, 0), True), ((0, 0, 0, 1, 0), False), ((0, 0, 1, 0, 0), False), ((0, 0, 0, 0, 0), False)]:
            other = Code(SHAPE, F, code.cells, code.forms, code.rows + (END,), code.handler)
            self.assertIs(is_slow_paper(within, other, (homes, claims + ((spot, 0, ()),))), right)
            self.assertIs(is_paper(within, other, (homes, claims + ((spot, 0, ()),))), right)
        # The last row can't go on to one that is not there.
        code = coded(program, told + (("number", 0, 1),), 3, 0, 1)
        self.bad(program, code, (((), (), (), (0,)), claims + ((AT, 1, ()),)))

    def test_shape_and_form_alike(self):
        program = made(("row", ONE))
        code, paper = compiled(program)
        for shape, form in [((1, True, 3), F), ((2, False, 3), F), ((2, True, 2), F), (SHAPE, Format(4, -2, 2))]:
            other = Code(shape, form, code.cells, code.forms, code.rows, code.handler)
            self.assertIs(is_paper(program, other, paper), False)
        self.assertIs(is_paper(program, Code(SHAPE, Format(3, -2, 2), code.cells, code.forms, code.rows, code.handler),
                               paper), True)

    def test_claims_for_all_rows(self):
        program = made(("row", ONE))
        code, paper = compiled(program)
        homes, claims = paper
        for thing in [(homes, claims[:-1]), (homes, claims + (None,)), (homes, list(claims)), [homes, claims], (homes,),
                      (homes, claims, ()), (homes, (None,) * len(claims)), claims, None]:
            self.bad(program, code, thing)
        for thing in support.junk():
            self.assertIs(is_paper(program, code, thing), False)
            self.assertIs(is_paper(program, code, (thing, claims)), False)
            self.assertIs(is_paper(program, code, (homes, thing)), False)
            for at in range(len(claims)):
                if thing is not None:
                    self.assertIs(is_paper(program, code, (homes, claims[:at] + (thing,) + claims[at + 1:])), False)
            for bent in [(thing, 1, ()), (AT, 1, thing), (AT, 1, ((thing, ONE),)), (AT, 1, ((R0, thing),)),
                         (AT, 1, ((("r", thing), ONE),)), (AT, 1, (((thing, 0), ONE),))]:
                if thing not in ((), 0, 1):
                    self.assertIs(is_paper(program, code, (homes, (bent,) + claims[1:])), False)


class CompiledPapersTest(unittest.TestCase):
    def test_bent_in_one_place(self):
        told = {True: 0, False: 0}
        for at in range(300):
            chance = random.Random(at)
            program = Program(*some_program(chance))
            code, paper = compiled(program)
            if len(code.rows) > 60:
                continue
            slow = Spots(program)
            self.assertTrue(is_slow_paper(program, code, paper, slow))
            for thing in support.changed(paper, at, 25) + self.bent(chance, paper, slow):
                right = is_slow_paper(program, code, thing, slow)
                self.assertIs(is_paper(program, code, thing), right, thing)
                told[right] += 1
            rows = list(code.rows)
            one, other = chance.randrange(len(rows)), chance.randrange(len(rows))
            rows[one] = rows[other]
            bent = Code(code.shape, code.form, code.cells, code.forms, tuple(rows), code.handler)
            self.assertIs(is_paper(program, bent, paper), is_slow_paper(program, bent, paper, slow))
        self.assertGreater(told[True], 300)
        self.assertGreater(told[False], 3000)

    def bent(self, chance, paper, slow):
        """Claims with another spot, another left, a hold more or less; homes the other way round."""
        homes, claims = paper
        found = [(homes[:2] + (homes[2][::-1],) + homes[3:], claims), (homes[:3] + (homes[3][::-1],), claims)]
        found.append((homes, tuple((spot, left + 7, holds) for spot, left, holds in claims)))
        holds_known = [pair for _, _, holds in claims for pair in holds] or [(R0, ONE)]
        for _ in range(12):
            at = chance.randrange(len(claims))
            spot, left, holds = claims[at]
            more = tuple(sorted(dict(holds + (chance.choice(holds_known),)).items()))
            for claim in [(chance.choice(list(slow.whats)), left, holds), (spot, left + chance.choice((-1, 1)), holds),
                          (spot, left, more), (spot, left, holds[1:]), None]:
                found.append((homes, claims[:at] + (claim,) + claims[at + 1:]))
        return found


if __name__ == "__main__":
    unittest.main()
