"""Promise 9.3: what is written, and what is read."""

import random
import unittest

from steadycraft.codes import Code
from steadycraft.compiling import compiled
from steadycraft.crafts import Craft
from steadycraft.dyads import Format
from steadycraft.errors import BadCode, BadCraft, BadFormat, BadPlant, BadProgram, BadText, BadThing, NoThing
from steadycraft.plants import Plant
from steadycraft.programs import Program
from steadycraft.texts import (code_text, craft_text, program_text, read_code, read_craft, read_program, read_thing,
                               written)
from tests import support
from tests.coding import ITEMS, some_code
from tests.programming import some_program
from tests.reading import Bad, code_parts, craft_parts, longest_beginning, program_parts, thing_of
from tests.test_games import falling

SIGNS = "()-,0123456789abcyesno .A;"
ERRORS = (BadText, BadFormat, BadPlant, BadCraft, BadCode, BadProgram)


def some_thing(chance, deep):
    pick = chance.random()
    if deep and pick < 0.4:
        return tuple(some_thing(chance, deep - 1) for _ in range(chance.randint(0, 3)))
    return chance.choice((None, True, False, 0, 1, -1, 12, -305, 10 ** 199, -10 ** 200 + 1, "a", "yess", "nos", "y",
                          "abcdefgh", "x", "noyes"))


class ThingsTest(unittest.TestCase):
    def test_written(self):
        for thing, text in [(0, "0"), (7, "7"), (-12, "-12"), (None, "-"), (True, "yes"), (False, "no"), ("abc", "abc"),
                            ((), "()"), ((1,), "(1)"), ((1, -2), "(1,-2)"), (((),), "(())"), (("a", None, (True,)), "(a,-,(yes))"),
                            ((None, None), "(-,-)"), ("yesno", "yesno"), ("z" * 8, "z" * 8), ("y", "y")]:
            self.assertEqual(written(thing), text)
            self.assertEqual(read_thing(text), thing)
            self.assertIs(type(read_thing(text)), type(thing))

    def test_back_again(self):
        chance = random.Random(1601)
        for _ in range(800):
            thing = some_thing(chance, 6)
            text = written(thing)
            self.assertEqual(repr(thing_of(text)), repr(thing))
            self.assertEqual(repr(read_thing(text)), repr(thing))
            self.assertEqual(written(read_thing(text)), text)

    def nested(self, deep, inner=()):
        for _ in range(deep - 1):
            inner = (inner,)
        return inner

    def test_edges(self):
        for thing in [self.nested(40), self.nested(40, (1, 2, "a")), 10 ** 200 - 1, 1 - 10 ** 200, (10 ** 199,) * 90]:
            self.assertEqual(read_thing(written(thing)), thing)
        wrong = [self.nested(41), self.nested(41, (1,)), 10 ** 200, -10 ** 200, (1, 10 ** 200), 2 ** 665, 10 ** 990,
                 "abcdefghi", "yes", "no", "", "A", "a1", "a b", "a\n", ("a", "no"), b"a", [1], (1, [2]), {}, ((), {}), (b"",),
                 (1, Format(3, -2, 2)), range(2), "x" * 20000]
        for thing in wrong:
            with self.assertRaises(NoThing):
                written(thing)

    def test_any_object(self):
        for thing in support.junk():
            try:
                text = written(thing)
            except NoThing:
                continue
            self.assertEqual(repr(read_thing(text)), repr(thing))
            self.assertIsInstance(thing, (int, str, tuple, type(None)))

    def test_read_thing_of_no_string(self):
        for thing in [one for one in support.junk() if type(one) is not str] + [b"1", None, 1, ("1",), ["1"]]:
            with self.assertRaises(BadThing) as caught:
                read_thing(thing)
            self.assertEqual(caught.exception.place, -1)

    def check(self, text):
        place = longest_beginning(text)
        if place is None:
            self.assertEqual(repr(read_thing(text)), repr(thing_of(text)))
            self.assertEqual(written(read_thing(text)), text)
            return True
        with self.assertRaises(BadThing) as caught:
            read_thing(text)
        self.assertEqual(caught.exception.place, place, text[:60])
        return False

    def test_bent_texts(self):
        chance, told = random.Random(1602), {True: 0, False: 0}
        for _ in range(2500):
            text = written(some_thing(chance, 4)) if chance.random() < 0.8 else ""
            for _ in range(chance.randint(1, 3)):
                at = chance.randint(0, len(text))
                sign = chance.choice(SIGNS)
                text = chance.choice([text[:at] + sign + text[at:], text[:at] + sign + text[at + 1:], text[:at],
                                      text[:at] + text[at + 1:], text[at:], text + sign])
            told[self.check(text)] += 1
        self.assertGreater(min(told.values()), 200)

    def test_places(self):
        for text, place in [("", 0), (" ", 0), ("(", 1), (")", 0), ("(1", 2), ("(1,", 3), ("(1,)", 3), ("(,", 1), ("()(", 2),
                            ("--", 1), ("-0", 1), ("00", 1), ("01", 1), ("-1-", 2), ("1 ", 1), ("abcdefghi", 8), ("1a", 1),
                            ("a1", 1), ("(a", 2), ("(a b)", 2), ("(1))", 3), ("Yes", 0), ("\n", 0), ("1\n", 1),
                            ("(" * 41, 40), ("(" * 41 + ")" * 41, 40), ("(" * 40 + ")" * 39, 79), ("(" * 20000, 40), ("7" * 201, 200),
                            ("-" + "7" * 201, 201), ("(1,2" * 9, 4)]:
            self.assertEqual(longest_beginning(text), place)
            self.assertFalse(self.check(text))
        for text in ["7" * 200, "-" + "7" * 200, "(" * 40 + ")" * 40, "-", "yes", "yesx", "nono", "0"]:
            self.assertTrue(self.check(text))

    def test_all_short_texts(self):
        signs = "(),-01an"
        texts = [""]
        for _ in range(4):
            texts += [text + sign for text in texts if len(text) == len(texts[-1]) for sign in signs]
        for text in texts:
            self.check(text)
        self.assertGreater(len(texts), 4000)


def outcome(reads, *told):
    """What a call returns, or its error with its field."""
    try:
        return reads(*told)
    except ERRORS as error:
        return type(error), vars(error)


def craft_due(text):
    found = craft_parts(text)
    form = Format(*found["format"])
    plant = Plant(form, *[found[word][0] for word in ("way", "box", "modes", "pushes")])
    return Craft(plant, *[found[word][0] for word in ("levers", "sensors", "lengths", "starts")])


def code_due(text):
    found, rows = code_parts(text)
    form = Format(*found["format"])
    return Code(found["shape"][0], form, found["cells"][0], found["forms"][0], rows, found["handler"][0])


def program_due(text):
    found, bodies, handler = program_parts(text)
    form = Format(*found["format"])
    return Program(found["shape"][0], form, *[found[word][0] for word in ("kept", "knocks", "forms")], bodies, handler)


def bent(chance, text):
    """A text with a sign, a word or a line otherwise, cut, moved, twice, unclosed, or with lines behind."""
    lines = text.split("\n")[:-1]
    at, other = chance.randrange(len(lines)), chance.randrange(len(lines))
    sign = chance.randrange(len(text))
    words = lines[at].split(" ")
    words[chance.randrange(len(words))] = chance.choice(("", "yes", "a", "-", "(1,2)", "07", "7", "else", "set", "abcdefghi"))
    moved = lines[:at] + lines[at + 1:]
    moved.insert(other, lines[at])
    joined = chance.choice([
        lines[:at] + [" ".join(words)] + lines[at + 1:], lines[:at] + lines[at + 1:], lines[:at], moved,
        lines[:at] + [lines[at]] + lines[at:], lines[:at] + [lines[other]] + lines[at + 1:], lines + [lines[at]], lines + [""],
        lines[:at] + [""] + lines[at:], lines[:at] + [lines[at] + " "] + lines[at + 1:],
        lines[:at] + [lines[at] + " 1"] + lines[at + 1:], lines[:at] + [lines[at].replace(" ", "  ", 1)] + lines[at + 1:],
        lines[:at] + ["end"] + lines[at:], lines[:at] + ["else"] + lines[at:], lines[:at] + ["case 1"] + lines[at:],
        lines[:at] + ["body"] + lines[at:], lines[:at] + ["handler"] + lines[at:], lines[:at] + ["if 1"] + lines[at:]])
    return chance.choice(["\n".join(joined) + "\n"] * 3 + [
        "\n".join(joined), text[:sign], text[:sign] + chance.choice(SIGNS + "\n") + text[sign + 1:],
        text[:sign] + chance.choice(SIGNS + "\n") + text[sign:], text[:sign] + text[sign + 1:], text + "end", text + "\n",
        text + text])


class TextsTest(unittest.TestCase):
    def check(self, reads, due, text):
        """Reads what is due, or raises what is due; which error it was."""
        try:
            right = outcome(due, text)
        except Bad as line:
            right = (BadText, {"line": line.args[0]})
        found = outcome(reads, text)
        self.assertEqual(found, right, text)
        return found[0] if type(found) is tuple else None

    def some_crafts(self):
        chance = random.Random(1603)
        return [falling()] + [support.some_craft(chance) for _ in range(60)]

    def test_the_documents_craft(self):
        text = ("format 6 -4 4\nway near\nbox ((0,4))\nmodes ((-,((plus,(in,0),(in,1)))))\npushes ((0,1))\n"
                "levers ((0),(-1))\nsensors (((in,0),0,0))\nlengths (1,1,no)\nstarts ((2))\n")
        self.assertEqual(craft_text(falling()), text)
        self.assertEqual(read_craft(text), falling())

    def test_code_of_every_sort_of_row(self):
        some = {"r": 1, "x": 2, "c": 0, "d": 1, "g": 3, "s": 1, "i": -5, "v": (-3, 1), "w": "near"}
        rows = tuple((word,) + tuple(some[kind] for kind in kinds) for word, kinds in ITEMS.items())
        code = Code((2, True, 3), Format(3, -1, 2), (1, 0, 2), (1, 1), rows, 4)
        text = code_text(code)
        self.assertEqual(text[:text.index("number")],
                         "shape (2,yes,3)\nformat 3 -1 2\ncells (1,0,2)\nforms (1,1)\nhandler 4\n")
        for line in ["number 1 -5", "value 2 (-3,1)", "of near 2 1", "fplus near 2 2 2", "less 1 1 3", "end", "back", "go 3"]:
            self.assertIn("\n" + line + "\n", text)
        self.assertEqual(read_code(text), code)

    def test_a_program_of_every_sort_of_statement(self):
        a, one = ("name", "a"), ("number", 1)
        test = ("not", ("both", ("less", a, one), ("below", ("form", "x"), ("value", (3, -1)))))
        body = (("set", "a", ("plus", ("length",), ("count", 0))), ("form", "x", ("of", "up", a)), ("row", one), ("call", 1),
                ("if", test, (("row", one),), ()), ("choose", a, ((-3, (("row", a),)), (4, ())), (("call", 1),)),
                ("rounds", 3, (("rounds", 2, ()),)))
        program = Program((1, True, 2), Format(3, -1, 2), ("a",), ("k",), (), (body, ()), (("set", "k", one),))
        self.assertEqual(program_text(program), "\n".join([
            "shape (1,yes,2)", "format 3 -1 2", "kept (a)", "knocks (k)", "forms ()", "body", "set a (plus,(length),(count,0))",
            "form x (of,up,(name,a))", "row (number,1)", "call 1",
            "if (not,(both,(less,(name,a),(number,1)),(below,(form,x),(value,(3,-1)))))", "row (number,1)", "else", "end",
            "choose (name,a)", "case -3", "row (name,a)", "case 4", "else", "call 1", "end", "rounds 3", "rounds 2", "end",
            "end", "end", "body", "end", "handler", "set k (number,1)", "end", ""]))
        self.assertEqual(read_program(program_text(program)), program)

    def test_read_back(self):
        for craft in self.some_crafts():
            text = craft_text(craft)
            self.assertEqual(read_craft(text), craft)
            self.assertEqual(craft_text(read_craft(text)), text)
            self.assertEqual(craft_due(text), craft)
        for at in range(150):
            chance = random.Random(at)
            program, code = Program(*some_program(chance)), Code(*some_code(chance))
            for one in (code, compiled(program)[0]):
                text = code_text(one)
                self.assertEqual(read_code(text), one)
                self.assertEqual(code_text(read_code(text)), text)
            text = program_text(program)
            self.assertEqual(read_program(text), program)
            self.assertEqual(program_text(read_program(text)), text)

    def test_bent_crafts(self):
        chance, told = random.Random(1604), {}
        for craft in self.some_crafts():
            for _ in range(50):
                word = self.check(read_craft, craft_due, bent(chance, craft_text(craft)))
                told[word] = told.get(word, 0) + 1
        self.assertGreater(told[BadText], 1000)
        self.assertGreater(min(told[BadFormat], told[BadPlant], told[BadCraft]), 2)

    def test_bent_code(self):
        chance, told = random.Random(1605), {}
        for _ in range(60):
            text = code_text(Code(*some_code(chance)))
            for _ in range(50):
                word = self.check(read_code, code_due, bent(chance, text))
                told[word] = told.get(word, 0) + 1
        self.assertGreater(min(told[BadText], told[BadCode]), 300)
        self.assertGreater(told[BadFormat], 5)

    def test_bent_programs(self):
        chance, told = random.Random(1606), {}
        for _ in range(80):
            text = program_text(Program(*some_program(chance)))
            for _ in range(50):
                word = self.check(read_program, program_due, bent(chance, text))
                told[word] = told.get(word, 0) + 1
        self.assertGreater(min(told[BadText], told[BadProgram]), 200)
        self.assertGreater(told[BadFormat], 1)

    def test_no_string(self):
        for thing in support.junk():
            for reads in (read_craft, read_code, read_program):
                if type(thing) is not str:
                    self.assertEqual(outcome(reads, thing), (BadText, {"line": 0}))
                else:
                    self.assertEqual(outcome(reads, thing), (BadText, {"line": 1}))

    def test_lines_that_lack_or_stand_behind(self):
        texts = [(read_craft, craft_text(falling())), (read_program, program_text(Program(
            (1, True, 2), Format(3, -1, 2), (), (), (), ((),), ())))]
        for reads, text in texts:
            lines = text.split("\n")[:-1]
            for many in range(len(lines)):
                short = "".join(line + "\n" for line in lines[:many])
                self.assertEqual(outcome(reads, short), (BadText, {"line": many + 1}))
                self.assertEqual(outcome(reads, short + lines[many]), (BadText, {"line": many + 1}))
            for behind in ("end", " ", "end\n", "\n", "\nend"):
                self.assertEqual(outcome(reads, text + behind), (BadText, {"line": len(lines) + 1}))
        code = "shape (1,yes,2)\nformat 3 -1 2\ncells (0,0,0)\nforms (0,0)\nhandler 0\n"
        self.assertEqual(outcome(read_code, code), (BadCode, {"part": "rows"}))
        self.assertEqual(outcome(read_code, code + "end"), (BadText, {"line": 6}))
        self.assertEqual(read_code(code + "end\n").rows, (("end",),))

    def test_rows_that_are_none(self):
        code = "shape (1,yes,2)\nformat 3 -1 2\ncells (0,0,0)\nforms (0,0)\nhandler 0\nend\n"
        for line in ["nothing", "number 0", "number 6 1", "number a b", "load 0 0", "go 2", "end 0", "greatest (1) - yes", "z"]:
            self.assertEqual(outcome(read_code, code + line + "\n"), (BadCode, {"part": ("row", 1)}))
        for line in ["", " ", "yes", "no 1", "- 1", "7", "(end)", "number  0 1", "number 0 1 ", " number 0 1", "Number 0 1", "abcdefghi",
                     "number 0 01", "number 0 )"]:
            self.assertEqual(outcome(read_code, code + line + "\n"), (BadText, {"line": 7}))

    def test_errors_in_their_order(self):
        text = craft_text(falling())
        wrong = [("format 6", "format (6)", BadFormat, "bits"), ("-4 4", "-4 -5", BadFormat, "high"),
                 ("way near", "way nearby", BadPlant, "way"), ("box ((0,4))", "box yes", BadPlant, "box"),
                 ("pushes ((0,1))", "pushes -", BadPlant, "pushes"), ("levers ((0),(-1))", "levers ()", BadCraft, "levers"),
                 ("starts ((2))", "starts ((5))", BadCraft, "starts")]
        for at, (old, new, error, part) in enumerate(wrong):
            bent_text = text.replace(old, new)
            for old, new, _, _ in wrong[at + 1:]:
                bent_text = bent_text.replace(old, new)
            self.assertEqual(outcome(read_craft, bent_text), (error, {"part": part}))
            self.assertEqual(outcome(read_craft, bent_text + "x"), (BadText, {"line": 10}))
        code = "shape -\nformat 30 -1 2\ncells -\nforms -\nhandler -\nend\n"
        self.assertEqual(outcome(read_code, code), (BadFormat, {"part": "bits"}))
        self.assertEqual(outcome(read_code, code.replace("30", "3")), (BadCode, {"part": "shape"}))
        program = "shape -\nformat 3 yes 2\nkept -\nknocks -\nforms -\nhandler\nend\n"
        self.assertEqual(outcome(read_program, program), (BadFormat, {"part": "low"}))
        self.assertEqual(outcome(read_program, program.replace("yes", "-1")), (BadProgram, {"part": "shape"}))
        program = program.replace("yes", "-1").replace("shape -", "shape (1,no,1)")
        program = program.replace("kept -", "kept ()").replace("knocks -", "knocks ()").replace("forms -", "forms ()")
        self.assertEqual(outcome(read_program, program), (BadProgram, {"part": "bodies"}))
        for inner, part in [("rounds 1\nend\nset no 1\n", ("body", 0)), ("choose (number,1)\nelse\nend\n", ("body", 0))]:
            told = program.replace("handler", "body\n" + inner + "end\nhandler")
            self.assertEqual(outcome(read_program, told), (BadProgram, {"part": part}))

    def test_as_deep_as_can_be(self):
        start = "shape (1,no,1)\nformat 3 -1 2\nkept ()\nknocks ()\nforms ()\nbody\n"
        opens = {"rounds 1\n": "end\n", "if (same,(number,1),(number,1))\n": "else\nend\n", "if 1\nelse\n": "end\n",
                 "choose (number,1)\nelse\n": "end\n", "choose 1\ncase 1\n": "else\nend\n"}
        for line, close in opens.items():
            many = (20000 - 100) // len(line + close)
            text = start + line * many + close * many + "end\nhandler\nend\n"
            self.assertEqual(outcome(read_program, text), (BadProgram, {"part": ("body", 0)}))
            many = (20000 - 100) // len(line)
            text = start + line * many
            self.assertEqual(outcome(read_program, text), (BadText, {"line": text.count("\n") + 1}))
            few = start + line * 11 + close * 11 + "end\nhandler\nend\n"
            if "same" in line or "rounds" in line:
                self.assertEqual(program_text(read_program(few)), few)
        deep = "(" * 19000
        for reads, text in [(read_craft, "format " + deep + "\n"), (read_program, start + "row " + deep + "\n"),
                            (read_code, "shape " + deep + "\n")]:
            self.assertEqual(outcome(reads, text)[0], BadText)

    def test_the_deepest_parts_are_written(self):
        e, x = ("name", "a"), ("value", (1, 0))
        for _ in range(27):
            e, x = ("plus", e, ("number", 1)), ("least", x, ("form", "x"))
        test = ("below", ("least", x, ("form", "x")), ("form", "y"))
        for _ in range(5):
            test = ("not", test)
        program = Program((1, False, 1), Format(3, -1, 2), (), (), (), ((("if", test, (), (("set", "a", e),)),),), ())
        self.assertEqual(read_program(program_text(program)), program)


if __name__ == "__main__":
    unittest.main()
