"""Code by chance, slowly judged and slowly run, by the document's own words."""

from fractions import Fraction

from steadycraft.dyads import Format
from tests import support
from tests.programming import FAR, is_dyad, is_integer

# What stands behind each word: r a register, x a form register, c a cell, d a form cell, g a row, s a sensor.
ITEMS = {"number": "ri", "copy": "rr", "plus": "rrr", "minus": "rrr", "value": "xv", "fcopy": "xx", "go": "g", "end": "",
         "load": "rc", "store": "cr", "fload": "xd", "fstore": "dx", "count": "rs", "lacks": "rs", "length": "r",
         "row": "r", "less": "rrg", "same": "rrg", "below": "xxg", "call": "g", "back": "", "least": "xxx",
         "greatest": "xxx", "times": "rrr", "of": "wxr", "fplus": "wxxx", "fminus": "wxxx", "ftimes": "wxxx"}
BEATS = {1: "number copy plus minus value fcopy go end", 3: "times", 4: "of fplus fminus", 6: "ftimes",
         2: "load store fload fstore count lacks length row less same below call back least greatest"}


def beats_of(word):
    return next(beats for beats, words in BEATS.items() if word in words.split())


def limits(shape, cells, forms, many):
    return {"r": 6, "x": 4, "c": sum(cells), "d": sum(forms), "g": many, "s": shape[0]}


def is_row(shape, form, cells, forms, many, thing):
    if type(thing) is not tuple or not thing or type(thing[0]) is not str or thing[0] not in ITEMS:
        return False
    kinds = ITEMS[thing[0]]
    if len(thing) != len(kinds) + 1 or (thing[0] == "length" and not shape[1]):
        return False
    for kind, item in zip(kinds, thing[1:]):
        if kind == "i":
            right = is_integer(item)
        elif kind == "v":
            right = is_dyad(form, item)
        elif kind == "w":
            right = type(item) is str and item in support.WAYS
        else:
            right = is_integer(item, 0, limits(shape, cells, forms, many)[kind] - 1)
        if not right:
            return False
    return True


def first_wrong(shape, form, cells, forms, rows, handler):
    """The first part that is not right, None if all are."""
    if not (type(shape) is tuple and len(shape) == 3 and is_integer(shape[0], 1, 3) and type(shape[1]) is bool
            and is_integer(shape[2], 1, 5)):
        return "shape"
    if type(form) is not Format:
        return "form"
    for part, told, many in [("cells", cells, 3), ("forms", forms, 2)]:
        if type(told) is not tuple or len(told) != many or not all(is_integer(one, 0, 100000) for one in told):
            return part
    if type(rows) is not tuple or not 1 <= len(rows) <= 60000:
        return "rows"
    for number, row in enumerate(rows):
        if not is_row(shape, form, cells, forms, len(rows), row):
            return ("row", number)
    return None if is_integer(handler, 0, len(rows) - 1) else "handler"


def some_item(chance, kind, bounds, at):
    if kind == "i":
        return chance.choice((0, 1, 2, -1, 3, 500, FAR, -FAR))
    if kind == "v":
        return chance.choice(((0, 0), (1, 0), (3, 1), (-7, 2), (7, -1), (5, 0)))
    if kind == "w":
        return chance.choice(support.WAYS)
    if kind == "g" and chance.random() < 0.85:
        return min(bounds["g"] - 1, at + chance.randint(1, 4))
    return chance.randrange(min(bounds[kind], 3 if kind in "rx" else bounds[kind]))


def some_code(chance, many=None):
    """What code is made of, by chance; all of it right."""
    shape = (chance.randint(1, 3), chance.random() < 0.5, chance.randint(1, 4))
    cells = (chance.randint(0, 2), chance.randint(0, 2), chance.randint(1, 2))
    forms = (chance.randint(0, 1), chance.randint(1, 2))
    many = chance.randint(1, 24) if many is None else many
    bounds = limits(shape, cells, forms, many)
    words = [word for word in ITEMS if (word != "length" or shape[1]) and word not in ("end", "back", "go")]
    rows = []
    for at in range(many):
        word = chance.choice(words + ["row", "number", "number", "number", "store", "load", "call"])
        word = chance.choice(("end", "back", "go")) if chance.random() < 0.12 else word
        rows.append((word,) + tuple(some_item(chance, kind, bounds, at) for kind in ITEMS[word]))
    if chance.random() < 0.8:
        rows[-1] = ("end",)
    return shape, Format(3, -1, 2), cells, forms, tuple(rows), chance.randrange(many)


def some_stand(chance, code):
    def integers(many):
        return tuple(chance.choice((0, 1, 2, -1, FAR)) for _ in range(many))

    dyads = tuple(chance.choice(((0, 0), (1, 0), (-3, 1), (7, 2))) for _ in range(code.forms[0]))
    return integers(code.cells[0]), integers(code.cells[1]), dyads


class Fault(Exception):
    pass


class SlowRun:
    """A period of code, row by row: all that it holds in one dict."""

    def __init__(self, code, stand, reading):
        self.code, self.reading, self.stack, self.next, self.row = code, reading, [], 0, None
        self.values = support.all_values(code.form)
        self.held = {("r", at): 0 for at in range(6)}
        self.held.update({("f", at): Fraction(0) for at in range(4)})
        lasting = stand[0] + stand[1]
        self.held.update({("c", at): lasting[at] if at < len(lasting) else 0 for at in range(sum(code.cells))})
        self.held.update({("d", at): support.value(stand[2][at]) if at < len(stand[2]) else Fraction(0)
                          for at in range(sum(code.forms))})
        self.beats = self.deep = 0

    def stand(self):
        kept, knocks, _ = self.code.cells
        return (tuple(self.held["c", at] for at in range(kept)),
                tuple(self.held["c", kept + at] for at in range(knocks)),
                tuple(support.dyad(self.held["d", at]) for at in range(self.code.forms[0])))

    def put(self, kind, at, found):
        if kind == "r" and not -FAR <= found <= FAR:
            raise Fault()
        self.held[kind, at] = found

    def rounded(self, exact, way):
        try:
            return support.rounded(self.values, Fraction(exact), way)
        except support.Lacking:
            raise Fault()

    def do(self, row):
        """Does a row, or raises Fault and changes nothing."""
        word, items, held = row[0], row[1:], self.held
        behind = self.next + 1
        if word in ("number", "copy", "plus", "minus", "times", "load", "count", "lacks", "length"):
            r = [held.get(("r", at)) for at in items[1:]] if word in ("copy", "plus", "minus", "times") else None
            count = self.reading[items[1]] if word in ("count", "lacks") else None
            self.put("r", items[0], items[1] if word == "number" else r[0] if word == "copy"
                     else support.exact(word, *r) if r else held["c", items[1]] if word == "load"
                     else (count or 0) if word == "count" else int(count is None) if word == "lacks"
                     else self.reading[self.code.shape[0]])
        elif word == "store":
            held["c", items[0]] = held["r", items[1]]
        elif word == "fstore":
            held["d", items[0]] = held["f", items[1]]
        elif word == "fload":
            held["f", items[0]] = held["d", items[1]]
        elif word == "fcopy":
            held["f", items[0]] = held["f", items[1]]
        elif word == "value":
            held["f", items[0]] = support.value(items[1])
        elif word in ("least", "greatest"):
            held["f", items[0]] = support.exact(word, held["f", items[1]], held["f", items[2]])
        elif word == "of":
            held["f", items[1]] = self.rounded(held["r", items[2]], items[0])
        elif word in ("fplus", "fminus", "ftimes"):
            exact = support.exact(word[1:], held["f", items[2]], held["f", items[3]])
            held["f", items[1]] = self.rounded(exact, items[0])
        elif word == "row":
            if held["r", items[0]] not in range(self.code.shape[2]):
                raise Fault()
            self.row = held["r", items[0]]
        elif word in ("less", "same", "below"):
            kind = "f" if word == "below" else "r"
            one, other = held[kind, items[0]], held[kind, items[1]]
            if one == other if word == "same" else one < other:
                behind = items[2]
        elif word == "go":
            behind = items[0]
        elif word == "call":
            if len(self.stack) >= 16:
                raise Fault()
            self.stack.append(behind)
            self.deep = max(self.deep, len(self.stack))
            behind = items[0]
        elif word == "back":
            if not self.stack:
                raise Fault()
            behind = self.stack.pop()
        self.next = behind

    def handle(self):
        aside = {key: found for key, found in self.held.items() if key[0] in "rf"}
        remembered, self.next = self.next, self.code.handler
        for number in range(1, 1001):
            if number == 1000 or self.next >= len(self.code.rows):
                break
            row = self.code.rows[self.next]
            if row[0] in ("back", "call", "row", "end"):
                break
            try:
                self.do(row)
            except Fault:
                break
        self.held.update(aside)
        self.next = remembered

    def run(self, knocks):
        waiting, done, rows = list(knocks), 0, self.code.rows
        while True:
            if self.next >= len(rows):
                return "fault"
            row = rows[self.next]
            while waiting and waiting[0] <= done:
                waiting.pop(0)
                if row[0] != "end":
                    self.handle()
            if row[0] != "end":
                try:
                    self.do(row)
                except Fault:
                    return "fault"
            self.beats, done = self.beats + beats_of(row[0]), done + 1
            if self.beats > 100000:
                return "late"
            if row[0] == "end":
                return "done"


def slowly_ran(code, stand, reading, knocks):
    run = SlowRun(code, stand, reading)
    word = run.run(knocks)
    return word, run.row, run.stand(), run.beats, run.deep
