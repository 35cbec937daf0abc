"""Promise 9.4: the desk."""

import random
import unittest

from steadycraft.checking import checked_code
from steadycraft.codes import Code
from steadycraft.compiling import compiled
from steadycraft.crafts import Craft
from steadycraft.desks import Desk
from steadycraft.dyads import Format
from steadycraft.errors import (BadCode, BadCraft, BadFormat, BadText, CraftError, NoArea, NoIndex, NoLever, NoLine, NoName,
                                NoReading, NoShape, NotApart, NotAwaited, NothingDone, NoWishes, TooMany)
from steadycraft.games import least_k, least_rank, longest, steady
from steadycraft.needs import lot_of, needs
from steadycraft.plants import Plant
from steadycraft.steering import shape_of, table_program
from steadycraft.texts import code_text, craft_text, written
from tests import support
from tests.test_checking import answering
from tests.test_games import CROWDING, NEVER_FOUR, crowded, falling, some_games

END = ("end",)


def craft_line(name, craft):
    return "craft " + name + " " + craft_text(craft).replace("\n", ";")


def code_line(name, code):
    return "code " + name + " " + code_text(code).replace("\n", ";")


def coded(craft, *rows, cells=(0, 0, 0)):
    return Code(shape_of(craft), craft.plant.form, cells, (0, 0), rows, len(rows) - 1)


def outcome(desk, line):
    """What a desk tells, or the error that it raises with its field."""
    try:
        return desk.tell(line)
    except CraftError as error:
        return (type(error),) + tuple(vars(error).values())


class DeskCase(unittest.TestCase):
    def tell(self, desk, *pairs):
        for line, told in pairs:
            self.assertEqual(outcome(desk, line), told, line[:80])

    def desk(self):
        """With the document's craft, wishes of it, and code that steers it."""
        desk = Desk()
        self.tell(desk, (craft_line("c", falling()), "ok"), ("wishes w c " + written(NEVER_FOUR), "ok"), ("steer s w", "ok"),
                  ("watch e c", "ok"))
        return desk


class LinesTest(DeskCase):
    def test_the_documents_craft(self):
        self.tell(self.desk(), ("steady w", "made"), ("longest w", "1"), ("check w s", "holds"), ("heard e (2)", "within"),
                  ("chose e 1", "within"), ("places e", "1"), ("heard e (3)", "within"), ("surely e (((3,3)))", "yes"),
                  ("surely e (((2,2)))", "no"), ("surely e ()", "no"), ("chose e 0", "within"), ("heard e (4)", "left"),
                  ("places e", "0"), ("surely e ()", "yes"), ("chose e 0", "left"), ("back e", "left"), ("back e", "within"),
                  ("heard e (-)", "left"), ("back e", "within"), ("back e", "within"), ("places e", "1"))

    def test_barred(self):
        desk = self.desk()
        for starts, levers, due in [(((3,),), ((0,), (-1,)), "barred 0"), (((2,),), ((0,),), "barred 1"),
                                    (((4,),), ((0,),), "barred 0"), (((0,),), ((0,),), "barred 3")]:
            self.tell(desk, (craft_line("c", falling(levers, starts)), "ok"), ("wishes w c " + written(NEVER_FOUR), "ok"),
                      ("steady w", due), ("longest w", "0"), ("steer new w", "barred"), ("check w new", (NoName, "new")))

    def test_against_the_functions(self):
        told = {}
        for chance, play, _ in some_games(1701, 60):
            craft, wishes, desk = play.craft, play.wishes, Desk()
            machine = answering(chance, play.slow, 2)
            code, _ = compiled(table_program(craft, machine))
            self.tell(desk, (craft_line("a", craft), "ok"), ("wishes b a " + written(wishes), "ok"), (code_line("d", code), "ok"))
            word, _ = steady(craft, wishes)
            made = word if word == "made" else "barred " + str(least_rank(craft, wishes))
            word, found = checked_code(craft, wishes, code)
            checks = word if word == "holds" else "breaks " + str(len(found[1]))
            beats, deep, _ = needs(code, lot_of(craft))
            self.tell(desk, ("steady b", made), ("longest b", str(longest(craft, wishes)[0])), ("check b d", checks),
                      ("needs d a", f"{beats} {deep}"))
            for at in range(5):
                try:
                    k = least_k(craft, wishes, at)
                    due = "-" if k is None else str(k)
                except CraftError as error:
                    due = (type(error),) + tuple(vars(error).values())
                self.tell(desk, (f"least b {at}", due))
            if made == "made":
                self.tell(desk, ("steer d b", "ok"), ("check b d", "holds"))
            else:
                self.tell(desk, ("steer d b", "barred"), ("check b d", checks))
            told[made[:4], checks[:4]] = told.get((made[:4], checks[:4]), 0) + 1
        self.assertGreater(min(told["made", "hold"], told["barr", "brea"]), 5)

    def test_least(self):
        plant = Plant(Format(6, -4, 4), "near", ((0, 9),), ((None, (("plus", ("in", 0), ("number", 1)),)),), ((0, 0),))
        craft = Craft(plant, ((0,),), ((("in", 0), 0, 0),), (1, 1, False), ((0,),))
        wishes = (("within", (((5, 5),),), 3), ("never", ()), ("within", (((5, 5),), ((8, 8),)), 9), ("within", (), 2))
        self.tell(Desk(), ("least w 0", (NoName, "w")))
        desk = Desk()
        self.tell(desk, (craft_line("c", craft), "ok"), ("wishes w c " + written(wishes[:2]), "ok"), ("least w 0", "5"),
                  ("least w 1", (NoIndex,)), ("least w 2", (NoIndex,)), ("wishes w c " + written(wishes[2:]), "ok"),
                  ("least w 0", "-"), ("least w 1", "-"), ("longest w", "1"))

    def test_faults(self):
        desk, craft = self.desk(), falling()
        rows = (("count", 0, 0), ("number", 1, 3), ("same", 0, 1, 4), END, ("back",), END)
        self.tell(desk, (code_line("f", coded(craft, *rows)), "ok"), ("check w f", "fault 2"),
                  (code_line("g", coded(craft, END)), "ok"), ("check w g", "breaks 2"), ("needs g c", "1 0"),
                  (code_line("h", coded(craft, ("call", 2), END, ("call", 4), ("back",), ("back",), END)), "ok"),
                  ("needs h c", "9 2"))

    def test_names_of_each_sort_by_themselves(self):
        desk, craft = Desk(), falling()
        self.tell(desk, (craft_line("a", craft), "ok"), (code_line("a", coded(craft, END)), "ok"),
                  ("wishes a a ()", "ok"), ("watch a a", "ok"), ("check a a", "holds"), ("needs a a", "1 0"),
                  ("heard a (2)", "within"), ("steer a a", "ok"), ("check a a", "holds"), ("steady a", "made"))
        self.tell(desk, (craft_line("yes", craft), "ok"), ("wishes no yes ()", "ok"), ("steady no", "made"),
                  ("watch abcdefgh yes", "ok"), ("places abcdefgh", "0"))

    def test_what_is_told_anew(self):
        desk = self.desk()
        self.tell(desk, ("heard e (2)", "within"), (craft_line("c", falling(((0,),), ((3,),))), "ok"), ("steady w", "made"),
                  ("check w s", "holds"), ("chose e 1", "within"), ("needs s c", (NoShape,)), ("watch f c", "ok"),
                  ("heard f (2)", "left"), ("back f", "within"), ("heard f (3)", "within"), ("chose f 1", (NoLever,)),
                  ("wishes v c ((never,(((4,4)))))", "ok"), ("steady v", "barred 0"), ("steady w", "made"),
                  ("wishes w c ((never,(((4,4)))))", "ok"), ("steady w", "barred 0"), ("check w s", (NoShape,)),
                  ("watch e c", "ok"), ("places e", "0"), ("chose e 0", (NotAwaited,)))

    def test_equal_to_itself_alone(self):
        one, other = Desk(), Desk()
        self.assertTrue(one == one)
        self.assertFalse(one != one)
        for thing in [other, self.desk()] + support.junk():
            self.assertFalse(one == thing)
            self.assertTrue(one != thing)


class ErrorsTest(DeskCase):
    def test_no_line(self):
        desk = self.desk()
        craft = craft_text(falling()).replace("\n", ";")
        wrong = ["", " ", "craft", "craft a", "craft a ", "craft  a " + craft, " craft a " + craft, "craft abcdefghi " + craft,
                 "craft A " + craft, "craft a1 " + craft, "Craft a " + craft, "crafts a " + craft, "code", "code a", "code a ",
                 "wishes", "wishes a", "wishes a c", "wishes a c ", "wishes a c (,)", "wishes a c ((never,()) ", "wishes a c () ()",
                 "wishes a c [never]", "wishes a  c ()", "wishes abcdefghi c ()", "wishes a abcdefghi ()", "wishes a c 07",
                 "steady", "steady ", "steady w ", "steady  w", "steady w w", "steady W", "steady 1", "steady abcdefghi",
                 "longest", "longest w 1", "least w", "least w ", "least w 00", "least w 01", "least w 10000", "least w -1",
                 "least w a", "least w 1 ", "least w 1 1", "least w yes", "least w +1", "steer", "steer a", "steer a w ",
                 "steer a w w", "check w", "check w s ", "check w s s", "check  w s", "needs s", "needs s c 1", "watch a",
                 "watch a c c", "heard e", "heard e ", "heard e 2)", "heard e (2) ", "heard e (02)", "heard e (2), ",
                 "heard e abcdefghi", "heard e " + "7" * 201, "heard e " + "(" * 41 + ")" * 41, "chose e", "chose e -", "chose e (1)",
                 "chose e 01", "chose e 12345", "places", "places e e", "places e ", "surely e", "surely e ((", "surely e () ()",
                 "back", "back e e", "back e 1", "tell e", "x", "steady\nw", "steady w\n", "\nsteady w", craft,
                 "craft a " + craft_text(falling()), "heard e (2)\n"]
        for line in wrong + support.junk() + [b"steady w", ["steady w"], ("steady", "w"), None]:
            with self.assertRaises(NoLine):
                desk.tell(line)
        self.tell(desk, ("heard e (2)", "within"), ("chose e 1", "within"), ("places e", "1"), ("steady w", "made"))
        # Of so many figures, and of so many letters, lines have their forms.
        self.tell(desk, ("least w 9999", (NoIndex,)), ("least w 0", (NoIndex,)), ("back e", "within"), ("chose e 9999", (NoLever,)),
                  ("steady abcdefgh", (NoName, "abcdefgh")), ("watch a zzzzzzzz", (NoName, "zzzzzzzz")),
                  ("heard zzzzzzzz " + "7" * 200, (NoName, "zzzzzzzz")))

    def test_no_name(self):
        desk = self.desk()
        self.tell(desk, ("wishes new nope (1)", (NoName, "nope")), ("wishes w s ()", (NoName, "s")), ("steady c", (NoName, "c")),
                  ("longest e", (NoName, "e")), ("least s 7", (NoName, "s")), ("steer new s", (NoName, "s")),
                  ("check nope nix", (NoName, "nope")), ("check w nix", (NoName, "nix")), ("check c s", (NoName, "c")),
                  ("needs c s", (NoName, "c")), ("needs s w", (NoName, "w")), ("needs nope nix", (NoName, "nope")),
                  ("watch new w", (NoName, "w")), ("heard c 1", (NoName, "c")), ("chose w 1", (NoName, "w")),
                  ("places s", (NoName, "s")), ("surely new 1", (NoName, "new")), ("back nope", (NoName, "nope")))
        self.tell(desk, ("steady new", (NoName, "new")), ("places new", (NoName, "new")), ("check w new", (NoName, "new")))

    def test_what_the_functions_raise(self):
        desk, craft = self.desk(), craft_text(falling()).replace("\n", ";")
        self.tell(desk, ("craft c x", (BadText, 1)), ("craft c " + craft + ";", (BadText, 10)), ("craft c " + craft[:-1], (BadText, 9)),
                  ("craft c  " + craft, (BadText, 1)), ("craft c " + craft.replace("format 6", "format 1"), (BadFormat, "bits")),
                  ("craft c " + craft.replace("starts ((2))", "starts ()"), (BadCraft, "starts")),
                  ("code s " + craft, (BadText, 1)), ("code s shape 1;format 3 0 1;cells 1;forms 1;handler 1;", (BadCode, "shape")),
                  ("wishes w c 1", (NoWishes,)), ("wishes w c ((never,(((4,3)))))", (NoWishes,)), ("wishes w c yes", (NoWishes,)),
                  ("wishes w c ((never,(((0,1),(0,1)))))", (NoWishes,)), ("heard e 2", (NoReading,)), ("heard e (2,1)", (NoReading,)),
                  ("heard e (yes)", (NoReading,)), ("chose e 0", (NotAwaited,)), ("back e", (NothingDone,)),
                  ("surely e 1", (NoArea,)), ("surely e ((0,4))", (NoArea,)))
        # Nothing is otherwise then.
        self.tell(desk, ("steady w", "made"), ("check w s", "holds"), ("needs s c", outcome(self.desk(), "needs s c")),
                  ("heard e (2)", "within"), ("heard e (2)", (NotAwaited,)), ("heard e 1", (NotAwaited,)),
                  ("chose e 2", (NoLever,)), ("chose e 1", "within"))

    def test_bounds_and_code_that_is_not_apart(self):
        desk, craft = self.desk(), falling()
        loads = coded(craft, ("load", 0, 0), END, cells=(0, 1, 0))
        endless = coded(craft, ("load", 0, 0), ("number", 1, 1), ("plus", 0, 0, 1), ("store", 0, 0), END, cells=(1, 0, 0))
        self.tell(desk, (code_line("l", loads), "ok"), ("check w l", (NotApart,)), (code_line("l", endless), "ok"),
                  ("needs l c", (TooMany, 3000)), (craft_line("big", crowded()), "ok"),
                  ("wishes big big " + written(CROWDING), "ok"), ("steady big", (TooMany, 3000)), ("steer l big", (TooMany, 3000)),
                  ("needs l c", (TooMany, 3000)))

    def test_lines_by_chance(self):
        """Whatever is told, a desk that it was told to and that raised goes on as one that it was not told to."""
        chance = random.Random(1702)
        kinds = {"n": ["new", "s", "e"], "c": ["c", "c", "new"], "w": ["w", "w", "c"], "s": ["s", "s", "new"], "e": ["e", "e", "new"],
                 "k": ["0", "1", "7"], "t": ["(2)", "(3)", "()", "(((2,3)))", "((never,(((4,4)))))", "(((2,3)"]}
        forms = {"wishes": "nct", "steady": "w", "longest": "w", "least": "wk", "steer": "nw", "check": "ws", "needs": "sc",
                 "watch": "nc", "heard": "et", "chose": "ek", "places": "e", "surely": "et", "back": "e"}
        one, other, raised = self.desk(), self.desk(), 0
        for _ in range(1500):
            word = chance.choice(sorted(forms) + ["heard", "chose", "back"])
            line = " ".join([word] + [chance.choice(kinds[kind]) for kind in forms[word]])
            found = outcome(one, line)
            if type(found) is str:
                self.assertEqual(outcome(other, line), found)
            else:
                raised += 1
        self.assertGreater(raised, 400)
        self.assertLess(raised, 1100)


if __name__ == "__main__":
    unittest.main()
