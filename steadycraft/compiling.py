"""Compiling: code that does what a program tells, with a good paper."""

from steadycraft.codes import FORM_REGISTERS, MOST_ROWS, REGISTERS, Code
from steadycraft.errors import TooMany
from steadycraft.grammar import PARTS, SORTS
from steadycraft.papers import homed, names_in
from steadycraft.spots import HANDLER, begin, bodies_about, is_end, next_from, things_looked_at


def needed(part):
    """How many registers a part needs that is worked out with as few as can be, its greater side first."""
    inner = [item for kind, item in zip(PARTS[part[0]][1], part[1:]) if kind in SORTS]
    if len(inner) < 2:
        return 1
    one, other = needed(inner[0]), needed(inner[1])
    return one + 1 if one == other else max(one, other)


def homes_for(program):
    """Homes in the order of their names."""
    names, form_names = names_in(program)
    kept, knocks = len(program.kept), len(program.knocks)
    others = kept + knocks + len(names)
    return (tuple(range(kept)), tuple(range(kept, kept + knocks)), tuple(range(kept + knocks, others)),
            tuple(range(len(program.forms) + len(form_names))))


class Block:
    """The rows at one spot, each with what is held ahead of it."""

    def __init__(self, cells, first_spare, held):
        self._cells = cells
        self._held = {place: held[place] for place in held}
        self.steps = []
        # The next form cell that is free to put something aside, and how many of them are taken.
        self._spare = first_spare
        self.end_of_spares = first_spare

    def does(self, row, used, place, thing):
        """Adds a row that uses up what some places hold, and by which a place, if any, holds a thing."""
        self.steps.append((row, tuple(sorted(list(self._held.items())))))
        for gone in used:
            del self._held[gone]
        if place is not None:
            self._held[place] = thing

    def integer(self, thing, base):
        """Rows by which a register comes to hold an expression; registers ahead of it are let alone."""
        word = thing[0]
        if word in ("plus", "minus", "times"):
            one, other = self.both("r", thing[1], thing[2], base)
            self.does((word, base, one, other), [("r", one), ("r", other)], ("r", base), thing)
        elif word == "name":
            self.does(("load", base, self._cells[thing]), [], ("r", base), thing)
        else:
            self.does((word, base) + thing[1:], [], ("r", base), thing)

    def dyad(self, thing, base):
        """The same for a form, and a form register."""
        word = thing[0]
        if word == "value":
            self.does((word, base, thing[1]), [], ("f", base), thing)
        elif word == "form":
            self.does(("fload", base, self._cells[thing]), [], ("f", base), thing)
        elif word == "of":
            self.integer(thing[2], 0)
            self.does((word, thing[1], base, 0), [("r", 0)], ("f", base), thing)
        else:
            one, other = self.both("f", thing[-2], thing[-1], base)
            way = () if word in ("least", "greatest") else (thing[1],)
            self.does((word,) + way + (base, one, other), [("f", one), ("f", other)], ("f", base), thing)

    def part(self, letter, thing, base):
        if letter == "r":
            self.integer(thing, base)
        else:
            self.dyad(thing, base)

    def both(self, letter, one, other, base):
        """Rows by which two registers from base on come to hold two things; the numbers of these."""
        swapped = needed(other) > needed(one)
        first, second = (other, one) if swapped else (one, other)
        self.part(letter, first, base)
        most = REGISTERS if letter == "r" else FORM_REGISTERS
        if base + 1 + needed(second) <= most:
            self.part(letter, second, base + 1)
            return (base + 1, base) if swapped else (base, base + 1)
        # Only forms can need more than there are: an expression of 60 parts needs 5 registers.
        spare = self._spare
        self._spare += 1
        self.end_of_spares = max(self.end_of_spares, self._spare)
        self.does(("fstore", spare, base), [("f", base)], ("d", spare), first)
        self.dyad(second, base)
        self.does(("fload", base + 1, spare), [("d", spare)], ("f", base + 1), first)
        self._spare = spare
        return (base, base + 1) if swapped else (base + 1, base)


class Maker:
    """Rows and claims of a program, spot by spot."""

    def __init__(self, program, homes):
        self._program = program
        homed_by = homed(program, homes)
        self._cells = {homed_by[place]: place[1] for place in homed_by}
        self._first_spare = len(homes[3])
        self.many_form_cells = self._first_spare
        self.rows = []
        self.claims = []
        self.begins = {}
        # The spots to which rows go that were met, and these rows, for which the number is still due.
        self._todo = []
        self._gaps = []

    def make(self, b):
        """Makes all rows that come from the begin of a body on."""
        self._todo.append(begin(self._program, b))
        while len(self._todo) > 0:
            spot = self._todo.pop()
            while spot is not None and spot not in self.begins:
                spot = self.make_spot(spot)
                if spot in self.begins:
                    self.put_row(("go", self.begins[spot]), spot, self.claims[self.begins[spot]][1] + 1, ())

    def fill_gaps(self):
        for number, spot in self._gaps:
            self.rows[number] = self.rows[number] + (self.begins[spot],)

    def put_row(self, row, spot, left, held):
        if len(self.rows) == MOST_ROWS:
            raise TooMany(MOST_ROWS)
        self.rows.append(row)
        self.claims.append((spot, left, held))

    def make_spot(self, spot):
        """Makes the rows at a spot; the spot that goes on behind them, None if none does."""
        self.begins[spot] = len(self.rows)
        bodies = bodies_about(self._program, spot)
        held = {}
        if not is_end(bodies, spot) and bodies[-1][spot[-2]][0] == "choose" and spot[-1] > 0:
            held[("r", 0)] = bodies[-1][spot[-2]][1]
        block = Block(self._cells, self._first_spare, held)
        target, behind = self.fill(block, bodies, spot)
        self.many_form_cells = max(self.many_form_cells, block.end_of_spares)
        for at, (row, holds) in enumerate(block.steps):
            self.put_row(row, spot, len(block.steps) - 1 - at, holds)
        if target is not None:
            self._gaps.append((len(self.rows) - 1, target))
            self._todo.append(target)
        return behind

    def fill(self, block, bodies, spot):
        """Fills a block with rows; the spot to which the last one goes, and the one behind it, None for none."""
        if is_end(bodies, spot):
            block.does(("end",) if spot[0] == 0 else ("back",), [], None, None)
            return None, None
        statement = bodies[-1][spot[-2]]
        word = statement[0]
        if word == "if" or word == "choose":
            if word == "if":
                self.compare(block, things_looked_at(statement)[spot[-1]])
            else:
                self.compare_case(block, statement, spot[-1])
            return next_from(bodies, spot, True), next_from(bodies, spot, False)
        behind = next_from(bodies, spot, None)
        if word == "call":
            block.does(("call",), [], None, None)
            return begin(self._program, statement[1]), behind
        self.settle(block, statement)
        return None, behind

    def compare(self, block, leaf):
        letter = "f" if leaf[0] == "below" else "r"
        one, other = block.both(letter, leaf[1], leaf[2], 0)
        block.does((leaf[0], one, other), [(letter, one), (letter, other)], None, None)

    def compare_case(self, block, statement, at):
        """Compares a case's integer: what it is compared with is held from the first case on."""
        if at == 0:
            block.integer(statement[1], 0)
        number = ("number", statement[2][at][0])
        block.integer(number, 1)
        block.does(("same", 0, 1), [("r", 1)], None, None)

    def settle(self, block, statement):
        """Rows of a set, form or row."""
        word, thing = statement[0], statement[-1]
        if word == "form":
            block.dyad(thing, 0)
            block.does(("fstore", self._cells[("form", statement[1])], 0), [("f", 0)], None, None)
            return
        block.integer(thing, 0)
        if word == "set":
            block.does(("store", self._cells[("name", statement[1])], 0), [("r", 0)], None, None)
        else:
            block.does(("row", 0), [("r", 0)], None, None)


def compiled(program):
    homes = homes_for(program)
    maker = Maker(program, homes)
    for b in range(len(program.bodies)):
        maker.make(b)
    maker.make(HANDLER)
    maker.fill_gaps()
    cells = (len(homes[0]), len(homes[1]), len(homes[2]))
    forms = (len(program.forms), maker.many_form_cells - len(program.forms))
    handler = maker.begins[begin(program, HANDLER)]
    code = Code(program.shape, program.form, cells, forms, tuple(maker.rows), handler)
    return code, (homes, tuple(maker.claims))
