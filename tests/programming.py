"""Programs by chance, slowly judged and slowly walked, by the document's own words."""

import re
from fractions import Fraction

from steadycraft.dyads import Format
from tests import support

FAR = 10 ** 9
BINARY = ("plus", "minus", "times")
FORM_BINARY = ("fplus", "fminus", "ftimes")


class Bad(Exception):
    """What is judged is not right."""


class Fault(Exception):
    """A walking faults."""


def need(right):
    if not right:
        raise Bad()


def is_integer(thing, low=-FAR, high=FAR):
    return type(thing) is int and low <= thing <= high


def is_name(thing):
    return type(thing) is str and re.fullmatch("[a-z]{1,8}", thing) is not None and thing not in ("yes", "no")


def is_dyad(form, thing):
    if type(thing) is not tuple or len(thing) != 2 or type(thing[0]) is not int or type(thing[1]) is not int:
        return False
    if thing == (0, 0):
        return True
    if thing[0] % 2 == 0 or not -200 <= thing[1] <= 200:
        return False
    exact = Fraction(thing[0]) * Fraction(2) ** thing[1]
    return any((exact / Fraction(2) ** step).denominator == 1 and abs(exact / Fraction(2) ** step) < 2 ** form.bits
               for step in range(form.low, form.high + 1))


def is_names(thing):
    return type(thing) is tuple and all(map(is_name, thing)) and list(thing) == sorted(set(thing))


class Judge:
    """What may stand in a body; in the handler where knocks are told."""

    def __init__(self, shape, form, calls, knocks=None):
        self.shape, self.form, self.calls, self.knocks = shape, form, calls, knocks

    def worded(self, thing, lengths):
        need(type(thing) is tuple and thing and type(thing[0]) is str and lengths.get(thing[0]) == len(thing))
        return thing[0]

    def body(self, thing, deep=1):
        need(type(thing) is tuple and deep <= 12)
        for statement in thing:
            self.statement(statement, deep)

    def statement(self, thing, deep):
        word = self.worded(thing, {"set": 3, "form": 3, "row": 2, "if": 4, "choose": 4, "rounds": 3, "call": 2})
        need(self.knocks is None or word not in ("form", "row", "call"))
        looked_at = []
        if word == "set":
            self.name(thing[1])
            looked_at = [("e", thing[2])]
        elif word == "form":
            need(is_name(thing[1]))
            looked_at = [("x", thing[2])]
        elif word == "row":
            looked_at = [("e", thing[1])]
        elif word == "if":
            looked_at = [("leaf", leaf) for leaf in self.leaves(thing[1], 1)]
            self.body(thing[2], deep + 1)
            self.body(thing[3], deep + 1)
        elif word == "choose":
            looked_at = [("e", thing[1])]
            need(type(thing[2]) is tuple and thing[2])
            for case in thing[2]:
                need(type(case) is tuple and len(case) == 2 and is_integer(case[0]))
                self.body(case[1], deep + 1)
            numbers = [case[0] for case in thing[2]]
            need(numbers == sorted(set(numbers)))
            self.body(thing[3], deep + 1)
        elif word == "rounds":
            need(is_integer(thing[1], 1, 20))
            self.body(thing[2], deep + 1)
        else:
            need(is_integer(thing[1]) and thing[1] in self.calls)
        need(sum(self.parts(kind, part, 0 if kind == "leaf" else 1) for kind, part in looked_at) <= 60)

    def leaves(self, thing, deep):
        need(deep <= 6 and type(thing) is tuple and thing and type(thing[0]) is str)
        if thing[0] in ("not", "both", "either"):
            need(len(thing) == (2 if thing[0] == "not" else 3))
            return [leaf for test in thing[1:] for leaf in self.leaves(test, deep + 1)]
        return [thing]

    def parts(self, kind, thing, deep):
        """How many parts; the kind of what is looked at is an expression, a form or a leaf."""
        need(deep <= 30)
        lengths = {"e": {"number": 2, "name": 2, "count": 2, "lacks": 2, "length": 1, "plus": 3, "minus": 3, "times": 3},
                   "x": {"value": 2, "form": 2, "of": 3, "fplus": 4, "fminus": 4, "ftimes": 4, "least": 3,
                         "greatest": 3},
                   "leaf": {"less": 3, "same": 3, "below": 3}}[kind]
        word = self.worded(thing, lengths)
        need(self.knocks is None or (kind != "x" and word not in ("count", "lacks", "length", "below")))
        if word == "number":
            need(is_integer(thing[1]))
        elif word == "name":
            self.name(thing[1])
        elif word in ("count", "lacks"):
            need(is_integer(thing[1], 0, self.shape[0] - 1))
        elif word == "length":
            need(self.shape[1])
        elif word == "value":
            need(is_dyad(self.form, thing[1]))
        elif word == "form":
            need(is_name(thing[1]))
        elif word in FORM_BINARY + ("of",):
            need(type(thing[1]) is str and thing[1] in support.WAYS)
        inner = {"of": [("e", 2)], "least": [("x", 1), ("x", 2)], "greatest": [("x", 1), ("x", 2)],
                 "below": [("x", 1), ("x", 2)]}
        inner.update((one, [("e", 1), ("e", 2)]) for one in BINARY + ("less", "same"))
        inner.update((one, [("x", 2), ("x", 3)]) for one in FORM_BINARY)
        return 1 + sum(self.parts(one, thing[at], deep + 1) for one, at in inner.get(word, []))

    def name(self, thing):
        need(is_name(thing) and (self.knocks is None or thing in self.knocks))


def leaves_in(test):
    return sum(map(leaves_in, test[1:])) if test[0] in ("not", "both", "either") else 1


def size(body, bodies):
    """Statements and leaves, unfolded."""
    many = 0
    for statement in body:
        word = statement[0]
        many += 1
        if word == "if":
            many += leaves_in(statement[1]) + size(statement[2], bodies) + size(statement[3], bodies)
        elif word == "choose":
            many += sum(size(case, bodies) for _, case in statement[2]) + size(statement[3], bodies)
        elif word == "rounds":
            many += statement[1] * size(statement[2], bodies)
        elif word == "call":
            many += size(bodies[statement[1]], bodies)
    return many


def is_right(judging, *told):
    try:
        judging(*told)
    except Bad:
        return False
    return True


def first_wrong(shape, form, kept, knocks, forms, bodies, handler):
    """The first part that is not right, None if all are."""
    if not (type(shape) is tuple and len(shape) == 3 and is_integer(shape[0], 1, 3) and type(shape[1]) is bool
            and is_integer(shape[2], 1, 5)):
        return "shape"
    if type(form) is not Format:
        return "form"
    if not is_names(kept):
        return "kept"
    if not is_names(knocks) or set(kept) & set(knocks):
        return "knocks"
    if not is_names(forms):
        return "forms"
    if type(bodies) is not tuple or not 1 <= len(bodies) <= 10:
        return "bodies"
    for at, body in enumerate(bodies):
        if not is_right(Judge(shape, form, range(at + 1, len(bodies))).body, body):
            return ("body", at)
    if not is_right(Judge(shape, form, (), knocks).body, handler):
        return "handler"
    return "long" if max(size(body, bodies) for body in bodies + (handler,)) > 20000 else None


class Some:
    """Programs by chance: few names, and integers of which some come beyond."""

    def __init__(self, chance, shape, form, knocks=None):
        self.chance, self.shape, self.form, self.knocks = chance, shape, form, knocks
        self.words = ("a", "b", "c", "k") if knocks is None else knocks

    def expression(self, deep):
        pick = self.chance.random()
        if deep == 0 or pick < 0.35:
            words = ["number", "name"] + ([] if self.knocks is not None else ["count", "lacks"])
            words += ["length"] if self.shape[1] and self.knocks is None else []
            word = self.chance.choice(words)
            if word == "number":
                return (word, self.chance.choice((0, 1, 2, 3, -1, 7, 40, -300, FAR, -FAR)))
            if word == "name":
                return (word, self.chance.choice(self.words))
            return (word,) if word == "length" else (word, self.chance.randrange(self.shape[0]))
        return (self.chance.choice(BINARY), self.expression(deep - 1), self.expression(deep - 1))

    def dyad(self):
        many, step = self.chance.randint(-7, 7), self.chance.randint(-1, 2)
        while many and many % 2 == 0:
            many, step = many // 2, step + 1
        return (many, step) if many else (0, 0)

    def form_part(self, deep):
        pick = self.chance.random()
        if deep == 0 or pick < 0.3:
            if self.chance.random() < 0.5:
                return ("value", self.dyad())
            return ("form", self.chance.choice(("a", "x", "y")))
        way = self.chance.choice(support.WAYS)
        if pick < 0.5:
            return ("of", way, self.expression(deep - 1))
        if pick < 0.7:
            return (self.chance.choice(("least", "greatest")), self.form_part(deep - 1), self.form_part(deep - 1))
        return (self.chance.choice(FORM_BINARY), way, self.form_part(deep - 1), self.form_part(deep - 1))

    def test(self, deep):
        pick = self.chance.random()
        if deep == 0 or pick < 0.4:
            if pick < 0.15 and self.knocks is None:
                return ("below", self.form_part(1), self.form_part(1))
            return (self.chance.choice(("less", "same")), self.expression(1), self.expression(1))
        if pick < 0.55:
            return ("not", self.test(deep - 1))
        return (self.chance.choice(("both", "either")), self.test(deep - 1), self.test(deep - 1))

    def body(self, deep, calls=()):
        return tuple(self.statement(deep, calls) for _ in range(self.chance.randint(0, 3)))

    def statement(self, deep, calls):
        pick = self.chance.random()
        plain = self.knocks is None
        if deep == 0 or pick < 0.45 or (pick > 0.85 and not (plain and calls)):
            if pick < 0.12 and plain:
                return ("row", ("number", self.chance.randrange(self.shape[2])) if self.chance.random() < 0.7
                        else self.expression(1))
            if pick < 0.25 and plain:
                return ("form", self.chance.choice(("a", "x", "y")), self.form_part(2))
            return ("set", self.chance.choice(self.words), self.expression(2))
        if pick < 0.6:
            return ("if", self.test(2), self.body(deep - 1, calls), self.body(deep - 1, calls))
        if pick < 0.75:
            numbers = sorted(self.chance.sample(range(-1, 4), self.chance.randint(1, 3)))
            return ("choose", self.expression(1), tuple((number, self.body(deep - 1, calls)) for number in numbers),
                    self.body(deep - 1, calls))
        if pick < 0.85:
            return ("rounds", self.chance.randint(1, 3), self.body(deep - 1, calls))
        return ("call", self.chance.choice(calls))


def some_program(chance):
    """What a program is made of, by chance; all of it right."""
    shape = (chance.randint(1, 3), chance.random() < 0.5, chance.randint(1, 5))
    form = Format(3, -1, 2)
    many = chance.randint(1, 4)
    knocks = chance.choice(((), ("k",), ("k", "kk")))
    bodies = tuple(Some(chance, shape, form).body(3, range(at + 1, many)) for at in range(many))
    handler = Some(chance, shape, form, knocks).body(2) if knocks else ()
    return (shape, form, chance.choice(((), ("a",), ("a", "b"))), knocks, chance.choice(((), ("a",), ("a", "x"))),
            bodies, handler)


def some_stand(chance, program):
    def integers(names):
        return tuple(chance.choice((0, 1, 2, -1, 5, FAR, -FAR, 1000)) for _ in names)

    some = Some(chance, program.shape, program.form)
    return integers(program.kept), integers(program.knocks), tuple(some.dyad() for _ in program.forms)


def some_reading(chance, shape):
    counts = tuple(chance.choice((None, 0, 1, 2, -3, FAR)) for _ in range(shape[0]))
    return counts + ((chance.randint(0, 6),) if shape[1] else ())


class SlowWalk:
    """A walking, part by part, over fractions and a list of all dyads that there are."""

    def __init__(self, program, stand, reading):
        self.program, self.reading, self.row = program, reading, None
        self.values = support.all_values(program.form)
        self.integers = dict(zip(program.kept + program.knocks, stand[0] + stand[1]))
        self.forms = {name: support.value(dyad) for name, dyad in zip(program.forms, stand[2])}

    def stand(self):
        program = self.program
        return (tuple(self.integers[name] for name in program.kept),
                tuple(self.integers[name] for name in program.knocks),
                tuple(support.dyad(self.forms[name]) for name in program.forms))

    def e(self, e):
        word = e[0]
        if word == "number":
            found = e[1]
        elif word == "name":
            found = self.integers.get(e[1], 0)
        elif word == "count":
            found = self.reading[e[1]] or 0
        elif word == "lacks":
            found = int(self.reading[e[1]] is None)
        elif word == "length":
            found = self.reading[self.program.shape[0]]
        else:
            one, other = self.e(e[1]), self.e(e[2])
            found = one + other if word == "plus" else one - other if word == "minus" else one * other
        if not -FAR <= found <= FAR:
            raise Fault()
        return found

    def x(self, x):
        word = x[0]
        if word == "value":
            return support.value(x[1])
        if word == "form":
            return self.forms.get(x[1], Fraction(0))
        if word == "of":
            return self.rounded(Fraction(self.e(x[2])), x[1])
        one, other = self.x(x[-2]), self.x(x[-1])
        if word in ("least", "greatest"):
            return min(one, other) if word == "least" else max(one, other)
        return self.rounded(support.exact(word[1:], one, other), x[1])

    def rounded(self, exact, way):
        try:
            return support.rounded(self.values, exact, way)
        except support.Lacking:
            raise Fault()

    def holds(self, test):
        word = test[0]
        if word == "not":
            return not self.holds(test[1])
        if word == "both":
            return self.holds(test[1]) and self.holds(test[2])
        if word == "either":
            return self.holds(test[1]) or self.holds(test[2])
        if word == "below":
            return self.x(test[1]) < self.x(test[2])
        one, other = self.e(test[1]), self.e(test[2])
        return one < other if word == "less" else one == other

    def walk(self, body):
        for statement in body:
            word = statement[0]
            if word == "set":
                self.integers[statement[1]] = self.e(statement[2])
            elif word == "form":
                self.forms[statement[1]] = self.x(statement[2])
            elif word == "row":
                row = self.e(statement[1])
                if row not in range(self.program.shape[2]):
                    raise Fault()
                self.row = row
            elif word == "if":
                self.walk(statement[2] if self.holds(statement[1]) else statement[3])
            elif word == "choose":
                self.walk(dict(statement[2]).get(self.e(statement[1]), statement[3]))
            elif word == "rounds":
                for _ in range(statement[1]):
                    self.walk(statement[2])
            else:
                self.walk(self.program.bodies[statement[1]])


def slowly_walked(program, stand, reading):
    walk = SlowWalk(program, stand, reading)
    try:
        walk.walk(program.bodies[0])
    except Fault:
        return "fault", walk.row, walk.stand()
    return "done", walk.row, walk.stand()


def slowly_handled(program, stand):
    walk = SlowWalk(program, stand, None)
    try:
        walk.walk(program.handler)
    except Fault:
        pass
    return walk.stand()
