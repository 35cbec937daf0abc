"""The lines of a program's bodies: how they stand within one another."""

# How many things stand behind the word of a statement without bodies, and of one that has some.
PLAIN = {"set": 2, "form": 2, "row": 1, "call": 1}
NESTING = {"if": 1, "choose": 1, "rounds": 1}
TOPS = ("body", "handler")


class Part:
    """What is not ended yet: a body, the handler, or a statement with bodies.

    The statements come into the last of its bodies. Only a choose has none as long as its
    first case is due, and the integers of cases; in_last tells that its last body is begun.
    """

    def __init__(self, word, things):
        self.word = word
        self.told = things
        self.cases = []
        self.bodies = [] if word == "choose" else [[]]
        self.in_last = word not in ("if", "choose")

    def begin_case(self, case):
        self.cases.append(case)
        self.bodies.append([])

    def begin_last(self):
        self.in_last = True
        self.bodies.append([])

    def statement(self):
        bodies = [tuple(body) for body in self.bodies]
        if self.word == "choose":
            return self.word, self.told[0], tuple(list(zip(self.cases, bodies))), bodies[-1]
        return (self.word,) + tuple(self.told) + tuple(bodies)


class Lines:
    """The bodies and the handler, as far as their lines were taken; whatever their things are."""

    def __init__(self):
        self.bodies = []
        self.handler = None
        # The parts that are not ended yet, the innermost one last.
        self._open = []

    def takes(self, word, things):
        """Takes a line; False if it is not due."""
        if len(self._open) == 0:
            if self.handler is not None or word not in TOPS or len(things) > 0:
                return False
            self._open.append(Part(word, things))
            return True
        part = self._open[-1]
        if word in ("else", "end"):
            return len(things) == 0 and (self._last(part) if word == "else" else self._end(part))
        if word == "case":
            if part.word != "choose" or part.in_last or len(things) != 1:
                return False
            part.begin_case(things[0])
            return True
        return len(part.bodies) > 0 and self._statement(part, word, things)

    def _last(self, part):
        if part.in_last:
            return False
        part.begin_last()
        return True

    def _end(self, part):
        if not part.in_last:
            return False
        self._open.pop()
        if part.word == "body":
            self.bodies.append(tuple(part.bodies[0]))
        elif part.word == "handler":
            self.handler = tuple(part.bodies[0])
        else:
            self._open[-1].bodies[-1].append(part.statement())
        return True

    def _statement(self, part, word, things):
        if word in PLAIN and len(things) == PLAIN[word]:
            part.bodies[-1].append((word,) + tuple(things))
            return True
        if word in NESTING and len(things) == NESTING[word]:
            self._open.append(Part(word, things))
            return True
        return False

    def is_whole(self):
        return self.handler is not None
