"""Papers: what the rows of code claim, by which it does what its program tells."""

from steadycraft.codes import ITEMS
from steadycraft.grammar import DEEPEST_PART, Grammar, parts_of
from steadycraft.kinds import ascending, is_between, is_integer, is_pair, is_tuple
from steadycraft.spots import HANDLER, begin, bodies_about, is_end, looked_at, next_from
from steadycraft.spots import statements_of, things_looked_at

# The letter by which places of a kind are told.
LETTER_OF = {"register": "r", "form register": "f", "cell": "c", "form cell": "d"}
# By letters, the kind of a place and the sort of what it holds.
KINDS = {"r": ("register", "expression"), "f": ("form register", "form"),
         "c": ("cell", "expression"), "d": ("form cell", "form")}
LOOKED_AT = ("plus", "minus", "times", "of", "fplus", "fminus", "ftimes")
MOVED = ("copy", "fcopy", "load", "store", "fload", "fstore")
OF_CELLS = ("load", "store", "fload", "fstore")
COMPARED = ("less", "same", "below")


def names_in(program):
    """The names, and the form names, that stand in a program but are not kept: both ascending."""
    names, form_names = {}, {}
    for statement in statements_of(program):
        if statement[0] == "set":
            names[statement[1]] = True
        if statement[0] == "form":
            form_names[statement[1]] = True
        for thing in things_looked_at(statement):
            for part in parts_of(thing):
                if part[0] == "name":
                    names[part[1]] = True
                if part[0] == "form":
                    form_names[part[1]] = True
    for name in program.kept + program.knocks:
        names.pop(name, None)
    for name in program.forms:
        form_names.pop(name, None)
    return sorted(list(names)), sorted(list(form_names))


def homed(program, homes):
    """A dict from the cells that are homes to what they hold."""
    names, form_names = names_in(program)
    found = {}
    for numbers, held in zip(homes, (program.kept, program.knocks, names)):
        for number, name in zip(numbers, held):
            found[("c", number)] = ("name", name)
    for number, name in zip(homes[3], list(program.forms) + form_names):
        found[("d", number)] = ("form", name)
    return found


def are_homes(program, code, thing):
    """Whether a thing tells homes: kept ones in their order, others anywhere among the cells that don't last."""
    if not is_tuple(4, 4, thing) or not all([isinstance(numbers, tuple) for numbers in thing]):
        return False
    kept, knocks, forms = len(program.kept), len(program.knocks), len(program.forms)
    if code.cells[:2] != (kept, knocks) or code.forms[0] != forms:
        return False
    if not all([is_integer(number) for numbers in thing for number in numbers]):
        return False
    if thing[0] != tuple(range(kept)) or thing[1] != tuple(range(kept, kept + knocks)):
        return False
    names, form_names = names_in(program)
    if thing[3][:forms] != tuple(range(forms)):
        return False
    if not are_unlike(len(names), kept + knocks, sum(code.cells), thing[2]):
        return False
    return are_unlike(len(form_names), forms, sum(code.forms), thing[3][forms:])


def are_unlike(many, low, end, numbers):
    """Whether these are so many unlike numbers, from low on and below end."""
    if len(numbers) != many or not all([low <= number < end for number in numbers]):
        return False
    return len({number for number in numbers}) == many


def places_of(row):
    """The registers and cells of a row, the one that gets something first; and its other items."""
    places, others = [], []
    for kind, item in zip(ITEMS[row[0]], row[1:]):
        if kind in LETTER_OF:
            places.append((LETTER_OF[kind], item))
        else:
            others.append(item)
    return places, tuple(others)


class Paper:
    """Homes and claims about code of a program, and whether they are good."""

    def __init__(self, program, code, homes, claims):
        self._program = program
        self._code = code
        self._homes = homed(program, homes)
        self._grammar = Grammar(program.shape, program.form, (0, -1), None)
        self._claims = claims
        self._held = []
        self._bodies = []

    def is_good(self):
        for claim in self._claims:
            if claim is not None and not self.is_claim(claim):
                return False
        self._held = [None if claim is None else {place: thing for place, thing in claim[2]} for claim in self._claims]
        self._bodies = [None if claim is None else bodies_about(self._program, claim[0]) for claim in self._claims]
        if not self.begins(0, 0) or not self.begins(self._code.handler, HANDLER) or not self.are_cells_apart():
            return False
        return all([self._claims[number] is None or self.goes_on(number) for number in range(len(self._claims))])

    def is_claim(self, thing):
        if not is_tuple(3, 3, thing) or bodies_about(self._program, thing[0]) is None:
            return False
        if not is_integer(thing[1]) or thing[1] < 0 or not isinstance(thing[2], tuple):
            return False
        return all([self.is_hold(pair) for pair in thing[2]]) and ascending([place for place, _ in thing[2]])

    def is_hold(self, thing):
        """Whether a thing is a place that is no home, and what can be held there."""
        if not is_pair(thing) or not is_pair(thing[0]):
            return False
        letter, number = thing[0]
        if not isinstance(letter, str) or letter not in KINDS:
            return False
        kind, sort = KINDS[letter]
        if not is_between(0, self._code.how_many(kind) - 1, number) or thing[0] in self._homes:
            return False
        return self._grammar.is_part(sort, thing[1], DEEPEST_PART)

    def begins(self, number, b):
        """Whether a row claims the begin of a body, and holds nothing."""
        claim = self._claims[number]
        return claim is not None and claim[0] == begin(self._program, b) and claim[2] == ()

    def are_cells_apart(self):
        """Whether rows at spots of the handler, and others, name no cell in common that is no home."""
        in_handler, elsewhere = {}, {}
        for row, claim in zip(self._code.rows, self._claims):
            if claim is not None and row[0] in OF_CELLS:
                named = in_handler if claim[0][0] == HANDLER else elsewhere
                for place in places_of(row)[0]:
                    if place[0] in ("c", "d") and place not in self._homes:
                        named[place] = True
        return not any([place in elsewhere for place in in_handler])

    def follows(self, ahead, number, spot, held):
        """Whether a row goes on at a spot, with what is held, behind a row that is ahead of it."""
        claim = self._claims[number] if number < len(self._claims) else None
        if claim is None or claim[0] != spot:
            return False
        if spot == self._claims[ahead][0] and claim[1] >= self._claims[ahead][1]:
            return False
        return all([held.get(place) == thing for place, thing in claim[2]])

    def next_spot(self, number, answer):
        return next_from(self._bodies[number], self._claims[number][0], answer)

    def statement(self, number):
        """The statement at which a row's spot is; None at an end."""
        bodies, spot = self._bodies[number], self._claims[number][0]
        return None if is_end(bodies, spot) else bodies[-1][spot[-2]]

    def is_at(self, number, word):
        """Whether a row's spot is at a statement of a word."""
        statement = self.statement(number)
        return statement is not None and statement[0] == word

    def goes_on(self, number):
        """Whether all is so that a row's claim asks for."""
        row, spot, held = self._code.rows[number], self._claims[number][0], self._held[number]
        word = row[0]
        if word in COMPARED:
            return self.compares(number, row, held)
        if word == "go":
            return self.follows(number, row[1], spot, held)
        if word == "call":
            if not self.is_at(number, "call") or not self.begins(row[1], self.statement(number)[1]):
                return False
            return self.follows(number, number + 1, self.next_spot(number, None), {})
        if word == "back" or word == "end":
            return self.statement(number) is None and (spot[0] == 0) == (word == "end")
        if word == "row":
            return self.is_at(number, "row") and self.does(number, ("r", row[1]), held)
        places, _ = places_of(row)
        if word in ("store", "fstore") and places[0] in self._homes:
            return self.keeps(number, places, held)
        return self.puts(number, row, held)

    def does(self, number, place, held):
        """Whether a place holds what is looked at, and the next row goes on behind the statement."""
        if held.get(place) != self.statement(number)[-1]:
            return False
        return self.follows(number, number + 1, self.next_spot(number, None), held)

    def keeps(self, number, places, held):
        """The same for a row that stores in the home of a name; what is held by it is no more."""
        home = self._homes[places[0]]
        if not self.is_at(number, "set" if home[0] == "name" else "form") or self.statement(number)[1] != home[1]:
            return False
        if held.get(places[1]) != self.statement(number)[-1]:
            return False
        left = {place: held[place] for place in held if home not in parts_of(held[place])}
        return self.follows(number, number + 1, self.next_spot(number, None), left)

    def compares(self, number, row, held):
        one, other = [held.get(place) for place in places_of(row)[0]]
        if self.is_at(number, "if"):
            leaf = self.leaf(number)
            if (row[0], one, other) != leaf:
                return False
        elif self.is_at(number, "choose") and row[0] == "same":
            _, looked, cases, _ = self.statement(number)
            if one != looked or other != ("number", cases[self._claims[number][0][-1]][0]):
                return False
        else:
            return False
        if not self.follows(number, row[3], self.next_spot(number, True), held):
            return False
        return self.follows(number, number + 1, self.next_spot(number, False), held)

    def leaf(self, number):
        return things_looked_at(self.statement(number))[self._claims[number][0][-1]]

    def puts(self, number, row, held):
        """The same for a row by which a place gets something."""
        places, others = places_of(row)
        things = [held.get(place) for place in places[1:]]
        if row[0] in MOVED:
            thing = self._homes[places[1]] if places[1] in self._homes else things[0]
        elif any([thing is None for thing in things]):
            return False
        else:
            thing = (row[0],) + others + tuple(things)
        if row[0] in LOOKED_AT and not self.is_looked_at(number, thing):
            return False
        behind = {place: held[place] for place in held}
        behind[places[0]] = thing
        return self.follows(number, number + 1, self._claims[number][0], behind)

    def is_looked_at(self, number, thing):
        """Whether a thing is looked at at a row's spot, or a part of what is."""
        things = looked_at(self._bodies[number], self._claims[number][0])
        return any([thing in parts_of(whole) for whole in things])


def is_paper(program, code, thing):
    if code.shape != program.shape or code.form != program.form or not is_pair(thing):
        return False
    homes, claims = thing
    if not are_homes(program, code, homes) or not is_tuple(len(code.rows), len(code.rows), claims):
        return False
    return Paper(program, code, homes, claims).is_good()
