"""Spots: what is next in the walking of a body."""

from steadycraft.errors import NoAnswer, NoSpot
from steadycraft.grammar import leaves_of
from steadycraft.kinds import is_between, is_flag, is_integer

HANDLER = -1
# Where a test leads when no leaf is left: leaves have the numbers from 0 on.
HOLDS = -1
FAILS = -2


def body_of(program, b):
    return program.handler if b == HANDLER else program.bodies[b]


def many_looks(statement):
    """How many spots a statement has: rounds have none of their own."""
    if statement[0] == "if":
        return len(leaves_of(statement[1]))
    if statement[0] == "choose":
        return len(statement[2])
    return 0 if statement[0] == "rounds" else 1


def inner_body(statement, which):
    """The body of a statement with this number; None if it has none."""
    word = statement[0]
    if word == "if" and 0 <= which <= 1:
        return statement[2 + which]
    if word == "choose" and 0 <= which < len(statement[2]):
        return statement[2][which][1]
    if word == "choose" and which == len(statement[2]):
        return statement[3]
    return statement[2] if word == "rounds" and 0 <= which < statement[1] else None


def bodies_about(program, thing):
    """The bodies within which a spot is, from the outside inward; None for what is no spot."""
    if not isinstance(thing, tuple) or len(thing) < 3 or len(thing) & 1 == 0:
        return None
    if not all([is_integer(item) for item in thing]) or not is_between(HANDLER, len(program.bodies) - 1, thing[0]):
        return None
    bodies = [body_of(program, thing[0])]
    for at in range(1, len(thing) - 2, 2):
        number = thing[at]
        inner = inner_body(bodies[-1][number], thing[at + 1]) if 0 <= number < len(bodies[-1]) else None
        if inner is None:
            return None
        bodies.append(inner)
    return bodies if stands_in(bodies, thing[-2], thing[-1]) else None


def stands_in(bodies, number, at):
    """Whether the last of some bodies has a spot with these numbers; its end is one of the outermost body alone."""
    if number == len(bodies[-1]):
        return len(bodies) == 1 and at == 0
    return 0 <= number < len(bodies[-1]) and 0 <= at < many_looks(bodies[-1][number])


def is_end(bodies, spot):
    return spot[-2] == len(bodies[-1])


def spot_from(b, path, bodies, number):
    """The first spot from a statement on.

    path tells, from the outside inward, within which statements it stands and in which of
    their bodies, as spots do; bodies are these, the outermost one too.
    """
    path, bodies = list(path), list(bodies)
    while True:
        if number < len(bodies[-1]) and bodies[-1][number][0] != "rounds":
            return (b,) + tuple(path) + (number, 0)
        if number == len(bodies[-1]):
            if len(path) == 0:
                return (b, number, 0)
            which, number = path.pop(), path.pop()
            bodies.pop()
            # Behind a round comes the next one; behind any other body what is behind its statement.
            which += 1
        else:
            which = 0
        statement = bodies[-1][number]
        if statement[0] == "rounds" and which < statement[1]:
            path.extend([number, which])
            bodies.append(statement[2])
            number = 0
        else:
            number += 1


def begin(program, b):
    return spot_from(b, (), [body_of(program, b)], 0)


def targets(test, number, holds, fails):
    """For each leaf of a test, numbered from number on, where it leads if it holds and if it fails."""
    word = test[0]
    if word == "not":
        return targets(test[1], number, fails, holds)
    if word == "both" or word == "either":
        second = number + len(leaves_of(test[1]))
        if word == "both":
            return targets(test[1], number, second, fails) + targets(test[2], second, holds, fails)
        return targets(test[1], number, holds, second) + targets(test[2], second, holds, fails)
    return [(holds, fails)]


def is_answer(statement, thing):
    """Whether a thing is an answer at a statement's spot."""
    return is_flag(thing) if statement[0] in ("if", "choose") else thing is None


def answers_at(bodies, spot):
    """The answers that there are at a spot: none at an end."""
    if is_end(bodies, spot):
        return []
    return [True, False] if bodies[-1][spot[-2]][0] in ("if", "choose") else [None]


def next_from(bodies, spot, answer):
    """The spot behind one that is no end; bodies are those within which it is."""
    path, number, at = spot[1:-2], spot[-2], spot[-1]
    statement = bodies[-1][number]
    if statement[0] == "if":
        holds, fails = targets(statement[1], 0, HOLDS, FAILS)[at]
        target = holds if answer else fails
        if target >= 0:
            return spot[:-1] + (target,)
        which = 0 if target == HOLDS else 1
    elif statement[0] == "choose":
        if not answer and at + 1 < len(statement[2]):
            return spot[:-1] + (at + 1,)
        which = at if answer else len(statement[2])
    else:
        return spot_from(spot[0], path, bodies, number + 1)
    return spot_from(spot[0], path + (number, which), bodies + [inner_body(statement, which)], 0)


def next_spot(program, spot, answer):
    bodies = bodies_about(program, spot)
    if bodies is None or is_end(bodies, spot):
        raise NoSpot()
    if not is_answer(bodies[-1][spot[-2]], answer):
        raise NoAnswer()
    return next_from(bodies, spot, answer)


def spots(program):
    todo = [begin(program, b) for b in range(HANDLER, len(program.bodies))]
    found = {}
    while len(todo) > 0:
        spot = todo.pop()
        if spot not in found:
            found[spot] = True
            bodies = bodies_about(program, spot)
            todo.extend([next_from(bodies, spot, answer) for answer in answers_at(bodies, spot)])
    return sorted(list(found))


def things_looked_at(statement):
    """All that is looked at at some spot of a statement."""
    word = statement[0]
    if word == "if":
        return leaves_of(statement[1])
    if word == "choose":
        return [statement[1]]
    return [statement[-1]] if word in ("set", "form", "row") else []


def looked_at(bodies, spot):
    """What is looked at at a spot: of a leaf both sides."""
    if is_end(bodies, spot):
        return []
    statement = bodies[-1][spot[-2]]
    things = things_looked_at(statement)
    return list(things[spot[-1]][1:]) if statement[0] == "if" else things


def statements_of(program):
    """All statements of a program, those within others too."""
    found, todo = [], [program.handler] + list(program.bodies)
    while len(todo) > 0:
        body = todo.pop()
        for statement in body:
            found.append(statement)
            todo.extend(bodies_in(statement))
    return found


def bodies_in(statement):
    """The bodies of a statement, each once."""
    word = statement[0]
    if word == "if":
        return [statement[2], statement[3]]
    if word == "choose":
        return [body for _, body in statement[2]] + [statement[3]]
    return [statement[2]] if word == "rounds" else []
