"""Spots and papers, slowly: spots by walking with answers, papers judged rule by rule in the document's words."""

from tests.coding import ITEMS
from tests.programming import Judge, is_integer, is_right, leaves_in


def body_of(program, b):
    return program.handler if b == -1 else program.bodies[b]


# Walks that yield (spot, what is next there) and are sent the answers

def walk(program, b):
    body = body_of(program, b)
    yield from walk_body(body, (b,))
    yield (b, len(body), 0), ("end",)


def walk_body(body, ahead):
    for number, statement in enumerate(body):
        word, here = statement[0], ahead + (number,)
        if word == "if":
            holds = yield from walk_test(statement[1], here, 0)
            yield from walk_body(statement[2 if holds else 3], here + (0 if holds else 1,))
        elif word == "choose":
            for at, (case, inner) in enumerate(statement[2]):
                if (yield here + (at,), ("case", statement[1], case)):
                    yield from walk_body(inner, here + (at,))
                    break
            else:
                yield from walk_body(statement[3], here + (len(statement[2]),))
        elif word == "rounds":
            for at in range(statement[1]):
                yield from walk_body(statement[2], here + (at,))
        else:
            yield here + (0,), statement


def walk_test(test, here, leaf):
    if test[0] == "not":
        return not (yield from walk_test(test[1], here, leaf))
    if test[0] in ("both", "either"):
        holds = yield from walk_test(test[1], here, leaf)
        if holds == (test[0] == "either"):
            return holds
        return (yield from walk_test(test[2], here, leaf + leaves_in(test[1])))
    return (yield here + (leaf,), ("leaf", test))


def walked_by(program, b, answers):
    """The spot, and what is next there, behind these answers from the begin of a body on."""
    walking = walk(program, b)
    found = next(walking)
    for answer in answers:
        found = walking.send(answer)
    return found


class Spots:
    """All spots of a program, what is next at each, and those behind them: by walking anew to each."""

    def __init__(self, program):
        self.begins, self.whats, self.behind = {}, {}, {}
        for b in range(-1, len(program.bodies)):
            todo = [()]
            while todo:
                answers = todo.pop()
                spot, what = walked_by(program, b, answers)
                if not answers:
                    self.begins[b] = spot
                if spot in self.whats:
                    continue
                self.whats[spot] = what
                if what[0] == "end":
                    continue
                for answer in self.answers(spot):
                    self.behind[spot, answer] = walked_by(program, b, answers + (answer,))[0]
                    todo.append(answers + (answer,))

    def answers(self, spot):
        word = self.whats[spot][0]
        return () if word == "end" else (True, False) if word in ("leaf", "case") else (None,)

    def looked_at(self, spot):
        what = self.whats[spot]
        if what[0] == "leaf":
            return list(what[1][1:])
        if what[0] == "case":
            return [what[1]]
        return [what[-1]] if what[0] in ("set", "form", "row") else []


# Papers

def parts(thing):
    """A part and all within it: all tuples in it that begin with a word, and are no dyad."""
    found = [thing]
    for item in thing[1:]:
        if type(item) is tuple and type(item[0]) is str:
            found += parts(item)
    return found


def all_parts(thing):
    """The expressions, forms and leaves anywhere in bodies, with the statements about them."""
    if type(thing) is not tuple:
        return []
    found = [thing] if thing and type(thing[0]) is str else []
    return found + [part for item in thing for part in all_parts(item)]


def names_of(program):
    names, form_names = set(), set()
    for part in all_parts((program.bodies, program.handler)):
        if part[0] in ("set", "name"):
            names.add(part[1])
        elif part[0] == "form":
            form_names.add(part[1])
    return sorted(names - set(program.kept) - set(program.knocks)), sorted(form_names - set(program.forms))


PLACES = {"r": "r", "x": "f", "c": "c", "d": "d"}


class SlowPaper:
    def __init__(self, program, code, thing, spots=None):
        self.program, self.code, self.thing = program, code, thing
        self.spots = Spots(program) if spots is None else spots
        self.limits = {"r": 6, "f": 4, "c": sum(code.cells), "d": sum(code.forms)}

    def is_good(self):
        program, code = self.program, self.code
        if program.shape != code.shape or program.form != code.form:
            return False
        if type(self.thing) is not tuple or len(self.thing) != 2 or not self.has_homes(self.thing[0]):
            return False
        self.claims = self.thing[1]
        if type(self.claims) is not tuple or len(self.claims) != len(code.rows):
            return False
        if not all(claim is None or self.is_claim(claim) for claim in self.claims):
            return False
        if not self.begins(0, 0) or not self.begins(code.handler, -1):
            return False
        named = {True: set(), False: set()}
        for row, claim in zip(code.rows, self.claims):
            if claim is not None:
                named[claim[0][0] == -1] |= {place for place in self.places(row) if place[0] in "cd"} - set(self.homes)
        if named[True] & named[False]:
            return False
        return all(claim is None or self.is_kept(n) for n, claim in enumerate(self.claims))

    def has_homes(self, thing):
        if type(thing) is not tuple or len(thing) != 4 or not all(type(one) is tuple for one in thing):
            return False
        if not all(type(one) is int for numbers in thing for one in numbers):
            return False
        program, (kept, knocks, more) = self.program, self.code.cells
        names, form_names = names_of(program)
        told = list(program.kept) + list(program.knocks) + names
        if (kept, knocks) != (len(program.kept), len(program.knocks)) or self.code.forms[0] != len(program.forms):
            return False
        if list(thing[0]) != list(range(kept)) or list(thing[1]) != list(range(kept, kept + knocks)):
            return False
        if not all(kept + knocks <= one < kept + knocks + more for one in thing[2]):
            return False
        numbers = thing[0] + thing[1] + thing[2]
        if len(numbers) != len(told) or len(set(numbers)) != len(numbers):
            return False
        form_told = list(program.forms) + form_names
        if len(thing[3]) != len(form_told) or len(set(thing[3])) != len(form_told):
            return False
        if list(thing[3][:len(program.forms)]) != list(range(len(program.forms))):
            return False
        if not all(0 <= one < sum(self.code.forms) for one in thing[3]):
            return False
        self.homes = {("c", number): ("name", name) for number, name in zip(numbers, told)}
        self.homes.update({("d", number): ("form", name) for number, name in zip(thing[3], form_told)})
        return True

    def is_claim(self, thing):
        if type(thing) is not tuple or len(thing) != 3:
            return False
        spot, left, holds = thing
        if type(spot) is not tuple or not all(type(one) is int for one in spot) or spot not in self.spots.whats:
            return False
        if type(left) is not int or left < 0 or type(holds) is not tuple:
            return False
        judge = Judge(self.program.shape, self.program.form, ())
        for pair in holds:
            if type(pair) is not tuple or len(pair) != 2:
                return False
            place, held = pair
            if type(place) is not tuple or len(place) != 2 or type(place[0]) is not str or place[0] not in self.limits:
                return False
            if not is_integer(place[1], 0, self.limits[place[0]] - 1) or place in self.homes:
                return False
            if not is_right(judge.parts, "e" if place[0] in "rc" else "x", held, 1):
                return False
        places = [place for place, _ in holds]
        return places == sorted(set(places))

    def places(self, row):
        return [(PLACES[kind], item) for kind, item in zip(ITEMS[row[0]], row[1:]) if kind in PLACES]

    def begins(self, n, b):
        return self.claims[n] is not None and self.claims[n][0] == self.spots.begins[b] and self.claims[n][2] == ()

    def follows(self, n, m, spot, held):
        if m >= len(self.claims) or self.claims[m] is None:
            return False
        there, left, holds = self.claims[m]
        if there != spot or not set(holds) <= set(held.items()):
            return False
        return there != self.claims[n][0] or left < self.claims[n][1]

    def is_kept(self, n):
        row, (spot, _, holds) = self.code.rows[n], self.claims[n]
        word, what, held = row[0], self.spots.whats[spot], dict(holds)
        places = self.places(row)
        if word in ("less", "same", "below"):
            sides = [held.get(place) for place in places]
            due = list(what[1][1:]) if what[0] == "leaf" and what[1][0] == word else None
            if word == "same" and what[0] == "case":
                due = [what[1], ("number", what[2])]
            return sides == due and self.follows(n, row[3], self.spots.behind[spot, True], held) and self.follows(
                n, n + 1, self.spots.behind[spot, False], held)
        if word == "go":
            return self.follows(n, row[1], spot, held)
        if word == "call":
            return what[0] == "call" and self.begins(row[1], what[1]) and self.follows(
                n, n + 1, self.spots.behind[spot, None], {})
        if word in ("back", "end"):
            return what[0] == "end" and (spot[0] == 0 if word == "end" else spot[0] != 0)
        if word == "row" or word in ("store", "fstore") and places[0] in self.homes:
            return self.settles(n, word, spot, what, held, places)
        return self.gets(n, row, spot, held, places)

    def settles(self, n, word, spot, what, held, places):
        if word == "row":
            right = what[0] == "row" and held.get(places[0]) == what[1]
        else:
            home = self.homes[places[0]]
            right = what[0] == {"name": "set", "form": "form"}[home[0]] and what[1] == home[1]
            right = right and held.get(places[1]) == what[2]
            held = {place: thing for place, thing in held.items() if home not in parts(thing)}
        return right and self.follows(n, n + 1, self.spots.behind[spot, None], held)

    def gets(self, n, row, spot, held, places):
        word = row[0]
        if word in ("copy", "fcopy", "load", "store", "fload", "fstore"):
            thing = self.homes.get(places[1], held.get(places[1]))
        elif word in ("number", "value", "count", "lacks", "length"):
            thing = (word,) + row[2:]
        else:
            inner = tuple(held.get(place) for place in places[1:])
            if None in inner:
                return False
            thing = (word,) + (row[1:2] if word in ("of", "fplus", "fminus", "ftimes") else ()) + inner
            if word not in ("least", "greatest"):
                if not any(thing in parts(whole) for whole in self.spots.looked_at(spot)):
                    return False
        behind = dict(held)
        behind.pop(places[0], None)
        if thing is not None:
            behind[places[0]] = thing
        return self.follows(n, n + 1, spot, behind)


def is_slow_paper(program, code, thing, spots=None):
    return SlowPaper(program, code, thing, spots).is_good()
