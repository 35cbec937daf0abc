"""Programs: what they are, and what they do in a period."""

from steadycraft.devices import NOUGHT, combined_within, is_device_reading, is_shape, is_stand, rounded_within
from steadycraft.devices import worked_within
from steadycraft.dyads import Format, under
from steadycraft.errors import BadProgram, NoReading, NoStand
from steadycraft.grammar import DEEPEST_BODY, Grammar, are_words, unfolded
from steadycraft.kinds import is_tuple
from steadycraft.spans import greater, lesser

MOST_UNFOLDED = 20000


def check_names(kept, knocks, forms):
    if not are_words(kept):
        raise BadProgram("kept")
    held = {name: True for name in kept}
    if not are_words(knocks) or any([name in held for name in knocks]):
        raise BadProgram("knocks")
    if not are_words(forms):
        raise BadProgram("forms")


def is_long(bodies, handler):
    """Whether some body, or the handler, has too many statements and leaves, unfolded."""
    sizes = {}
    for at in range(len(bodies) - 1, -1, -1):
        sizes[at] = unfolded(bodies[at], sizes)
    return max(list(sizes.values()) + [unfolded(handler, {})]) > MOST_UNFOLDED


class Program:
    """What a device does in each period: bodies to walk, and a handler of knocks."""

    def __init__(self, shape, form, kept, knocks, forms, bodies, handler):
        if not is_shape(shape):
            raise BadProgram("shape")
        if not isinstance(form, Format):
            raise BadProgram("form")
        check_names(kept, knocks, forms)
        if not is_tuple(1, 10, bodies):
            raise BadProgram("bodies")
        for at, body in enumerate(bodies):
            if not Grammar(shape, form, (at + 1, len(bodies) - 1), None).is_body(body, DEEPEST_BODY):
                raise BadProgram(("body", at))
        if not Grammar(shape, form, (0, -1), knocks).is_body(handler, DEEPEST_BODY):
            raise BadProgram("handler")
        if is_long(bodies, handler):
            raise BadProgram("long")
        self.shape = shape
        self.form = form
        self.kept = kept
        self.knocks = knocks
        self.forms = forms
        self.bodies = bodies
        self.handler = handler

    def __eq__(self, other):
        if not isinstance(other, Program):
            return False
        if self.shape != other.shape or self.form != other.form or self.kept != other.kept:
            return False
        if self.knocks != other.knocks or self.forms != other.forms:
            return False
        return self.bodies == other.bodies and self.handler == other.handler


def first_stand(program):
    return (0,) * len(program.kept), (0,) * len(program.knocks), (NOUGHT,) * len(program.forms)


def check_stand(program, stand):
    many = (len(program.kept), len(program.knocks), len(program.forms))
    if not is_stand(program.form, many, stand):
        raise NoStand()


def walked(program, stand, reading):
    check_stand(program, stand)
    if not is_device_reading(program.shape, reading):
        raise NoReading()
    walk = Walk(program, stand, reading)
    word = "done" if walk.goes_through(program.bodies[0]) else "fault"
    return word, walk.row, walk.stand()


def handled(program, stand):
    check_stand(program, stand)
    walk = Walk(program, stand, None)
    walk.goes_through(program.handler)
    return walk.stand()


class Walk:
    """A walking through bodies: what names hold by now, and the row that was chosen last."""

    def __init__(self, program, stand, reading):
        kept, knocks, forms = stand
        self._program = program
        self._reading = reading
        self._integers = {name: held for name, held in zip(program.kept + program.knocks, kept + knocks)}
        self._dyads = {name: held for name, held in zip(program.forms, forms)}
        self.row = None

    def stand(self):
        program = self._program
        return (tuple([self._integers[name] for name in program.kept]),
                tuple([self._integers[name] for name in program.knocks]),
                tuple([self._dyads[name] for name in program.forms]))

    def goes_through(self, body):
        """Walks a body; False if it stops at a fault."""
        # What is still to be walked, the next statement last.
        todo = list(body[::-1])
        while len(todo) > 0:
            statement = todo.pop()
            if statement[0] in ("set", "form", "row"):
                if not self._does(statement):
                    return False
            else:
                inner = self._inner(statement)
                if inner is None:
                    return False
                todo.extend(inner[::-1])
        return True

    def _does(self, statement):
        """Does a statement without bodies; False if it faults."""
        word = statement[0]
        held = self.dyad(statement[2]) if word == "form" else self.integer(statement[-1])
        if held is None:
            return False
        if word == "set":
            self._integers[statement[1]] = held
        elif word == "form":
            self._dyads[statement[1]] = held
        else:
            if not 0 <= held < self._program.shape[2]:
                return False
            self.row = held
        return True

    def _inner(self, statement):
        """The body that is to be walked for a statement; None if it faults."""
        word = statement[0]
        if word == "rounds":
            return statement[2] * statement[1]
        if word == "call":
            return self._program.bodies[statement[1]]
        if word == "if":
            settles = self.holds(statement[1])
            return None if settles is None else statement[2 if settles else 3]
        held = self.integer(statement[1])
        if held is None:
            return None
        for case, body in statement[2]:
            if case == held:
                return body
        return statement[3]

    def holds(self, test):
        """Whether a test holds; None if it faults."""
        word = test[0]
        if word == "not":
            found = self.holds(test[1])
            return None if found is None else not found
        if word == "both" or word == "either":
            found = self.holds(test[1])
            # The other one is looked at only where the one holds (both), or does not (either).
            return self.holds(test[2]) if found == (word == "both") else found
        if word == "below":
            one, other = self.dyad(test[1]), self.dyad(test[2])
            return None if one is None or other is None else under(one, other)
        one, other = self.integer(test[1]), self.integer(test[2])
        if one is None or other is None:
            return None
        return one < other if word == "less" else one == other

    def integer(self, expression):
        """What an expression comes to; None if it faults."""
        word = expression[0]
        if word == "number":
            return expression[1]
        if word == "name":
            return self._integers.get(expression[1], 0)
        if word == "length":
            return self._reading[-1]
        if word == "count" or word == "lacks":
            count = self._reading[expression[1]]
            if word == "lacks":
                return 1 if count is None else 0
            return 0 if count is None else count
        one, other = self.integer(expression[1]), self.integer(expression[2])
        return None if one is None or other is None else combined_within(word, one, other)

    def dyad(self, x):
        """What a form comes to; None if it faults."""
        word = x[0]
        if word == "value":
            return x[1]
        if word == "form":
            return self._dyads.get(x[1], NOUGHT)
        if word == "of":
            held = self.integer(x[2])
            return None if held is None else rounded_within(self._program.form, x[1], held)
        one, other = self.dyad(x[-2]), self.dyad(x[-1])
        if one is None or other is None:
            return None
        if word == "least":
            return lesser(one, other)
        if word == "greatest":
            return greater(one, other)
        return worked_within(self._program.form, x[1], word, one, other)
