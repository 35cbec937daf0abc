"""Texts of things, crafts, code and programs, and what is read from them."""

from steadycraft.codes import Code
from steadycraft.crafts import Craft
from steadycraft.dyads import Format
from steadycraft.errors import BadText, BadThing, NoThing
from steadycraft.grammar import is_word
from steadycraft.plants import Plant
from steadycraft.programs import Program
from steadycraft.structure import Lines
from steadycraft.things import DEEPEST, scanned, text_of

# The words of the lines ahead of rows and bodies, and how many things each line has.
CRAFT_LINES = (("format", 3), ("way", 1), ("box", 1), ("modes", 1), ("pushes", 1), ("levers", 1), ("sensors", 1),
               ("lengths", 1), ("starts", 1))
CODE_LINES = (("shape", 1), ("format", 3), ("cells", 1), ("forms", 1), ("handler", 1))
PROGRAM_LINES = (("shape", 1), ("format", 3), ("kept", 1), ("knocks", 1), ("forms", 1))


def written(thing):
    text = text_of(thing, DEEPEST)
    if text is None:
        raise NoThing()
    return text


def read_thing(text):
    if not isinstance(text, str):
        raise BadThing(-1)
    thing, place = scanned(text)
    if place is not None:
        raise BadThing(place)
    return thing


def line_of(word, things):
    """A closed line: a word, and what is written of things."""
    return " ".join([word] + [written(thing) for thing in things]) + "\n"


def lines_of(forms, told):
    """Lines by their forms: of each the tuple of its things is told."""
    return "".join([line_of(word, things) for (word, _), things in zip(forms, told)])


def format_told(form):
    return form.bits, form.low, form.high


def craft_text(craft):
    plant = craft.plant
    return lines_of(CRAFT_LINES, [format_told(plant.form), (plant.way,), (plant.box,), (plant.modes,), (plant.pushes,),
                                  (craft.levers,), (craft.sensors,), (craft.lengths,), (craft.starts,)])


def code_text(code):
    head = lines_of(CODE_LINES, [(code.shape,), format_told(code.form), (code.cells,), (code.forms,), (code.handler,)])
    return head + "".join([line_of(row[0], row[1:]) for row in code.rows])


def program_text(program):
    told = [(program.shape,), format_told(program.form), (program.kept,), (program.knocks,), (program.forms,)]
    texts = [lines_of(PROGRAM_LINES, told)]
    for body in program.bodies:
        texts.append("body\n" + body_text(body) + "end\n")
    return "".join(texts) + "handler\n" + body_text(program.handler) + "end\n"


def body_text(body):
    return "".join([statement_text(statement) for statement in body])


def statement_text(statement):
    word = statement[0]
    if word == "if":
        _, test, one, other = statement
        return line_of(word, (test,)) + body_text(one) + "else\n" + body_text(other) + "end\n"
    if word == "choose":
        _, expression, cases, last = statement
        texts = [line_of("case", (case,)) + body_text(body) for case, body in cases]
        return line_of(word, (expression,)) + "".join(texts) + "else\n" + body_text(last) + "end\n"
    if word == "rounds":
        return line_of(word, (statement[1],)) + body_text(statement[2]) + "end\n"
    return line_of(word, statement[1:])


def closed_lines(text):
    """The closed lines of a text, and what stands behind the last one."""
    if not isinstance(text, str):
        raise BadText(0)
    lines = text.split("\n")
    return lines[:-1], lines[-1]


def things_of(line):
    """The word of a line, and the list of the things behind it; None for what is none."""
    words = line.split(" ")
    things = []
    for word in words[1:]:
        thing, place = scanned(word)
        if place is not None:
            return words[0], None
        things.append(thing)
    return words[0], things


def head_of(forms, lines):
    """The things of the lines that are due first, as far as there are lines."""
    found = []
    for at, line in enumerate(lines[:len(forms)]):
        word, things = things_of(line)
        if things is None or (word, len(things)) != forms[at]:
            raise BadText(at + 1)
        found.append(things)
    return found


def check_whole(is_whole, lines, rest):
    """Asks that nothing lacks, and nothing stands behind the last line."""
    if not is_whole or rest != "":
        raise BadText(len(lines) + 1)


def read_craft(text):
    lines, rest = closed_lines(text)
    told = head_of(CRAFT_LINES, lines)
    if len(lines) > len(CRAFT_LINES):
        raise BadText(len(CRAFT_LINES) + 1)
    check_whole(len(lines) == len(CRAFT_LINES), lines, rest)
    form = read_format(told[0])
    _, way, box, modes, pushes, levers, sensors, lengths, starts = [things[0] for things in told]
    return Craft(Plant(form, way, box, modes, pushes), levers, sensors, lengths, starts)


def read_format(things):
    bits, low, high = things
    return Format(bits, low, high)


def read_code(text):
    lines, rest = closed_lines(text)
    told = head_of(CODE_LINES, lines)
    rows = []
    for at, line in enumerate(lines[len(CODE_LINES):]):
        word, things = things_of(line)
        if things is None or not is_word(word):
            raise BadText(len(CODE_LINES) + at + 1)
        rows.append((word,) + tuple(things))
    check_whole(len(lines) >= len(CODE_LINES), lines, rest)
    form = read_format(told[1])
    shape, _, cells, forms, handler = [things[0] for things in told]
    return Code(shape, form, cells, forms, tuple(rows), handler)


def read_program(text):
    lines, rest = closed_lines(text)
    told = head_of(PROGRAM_LINES, lines)
    taken = Lines()
    for at, line in enumerate(lines[len(PROGRAM_LINES):]):
        word, things = things_of(line)
        if things is None or not taken.takes(word, things):
            raise BadText(len(PROGRAM_LINES) + at + 1)
    check_whole(len(lines) >= len(PROGRAM_LINES) and taken.is_whole(), lines, rest)
    form = read_format(told[1])
    shape, _, kept, knocks, forms = [things[0] for things in told]
    return Program(shape, form, kept, knocks, forms, tuple(taken.bodies), taken.handler)
