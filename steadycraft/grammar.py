"""The grammar of programs: names, expressions, forms, leaves, tests, statements, bodies."""

from steadycraft.devices import is_held
from steadycraft.dyads import has, is_way
from steadycraft.kinds import ascending, is_between, is_one_of, is_pair, is_tuple

LETTERS = "abcdefghijklmnopqrstuvwxyz"
MOST_PARTS = 60
DEEPEST_PART = 30
DEEPEST_TEST = 6
DEEPEST_BODY = 12

# The words of parts: the sort of each, and what it has behind its word.
PARTS = {
    "number": ("expression", ("integer",)),
    "name": ("expression", ("name",)),
    "count": ("expression", ("sensor",)),
    "lacks": ("expression", ("sensor",)),
    "length": ("expression", ()),
    "plus": ("expression", ("expression", "expression")),
    "minus": ("expression", ("expression", "expression")),
    "times": ("expression", ("expression", "expression")),
    "value": ("form", ("dyad",)),
    "form": ("form", ("form name",)),
    "of": ("form", ("way", "expression")),
    "fplus": ("form", ("way", "form", "form")),
    "fminus": ("form", ("way", "form", "form")),
    "ftimes": ("form", ("way", "form", "form")),
    "least": ("form", ("form", "form")),
    "greatest": ("form", ("form", "form")),
    "less": ("leaf", ("expression", "expression")),
    "same": ("leaf", ("expression", "expression")),
    "below": ("leaf", ("form", "form")),
}
OUT_OF_HANDLERS = ("count", "lacks", "length", "below")
SORTS = ("expression", "form", "leaf")


def is_word(thing):
    """Whether a thing is a name that a program can use."""
    if not isinstance(thing, str) or not 1 <= len(thing) <= 8 or thing == "yes" or thing == "no":
        return False
    return all([letter in LETTERS for letter in thing])


def are_words(thing):
    """Whether a thing is an ascending tuple of such names."""
    return isinstance(thing, tuple) and all([is_word(word) for word in thing]) and ascending(thing)


def is_worded(word, many, thing):
    """Whether a thing is a tuple of a word and so many other items."""
    return is_tuple(many + 1, many + 1, thing) and is_one_of((word,), thing[0])


class Grammar:
    """What a body may have, by the program's shape and format and the numbers that it may call.

    knocks is None but for the handler: it has none but these names, and no more than integers.
    """

    def __init__(self, shape, form, calls, knocks):
        self._sensors = shape[0]
        self._told = shape[1]
        self._form = form
        self._calls = calls
        self._knocks = None if knocks is None else {name: True for name in knocks}

    def is_body(self, thing, deep):
        """Whether a thing is a body that has at most so many within one another, itself counted."""
        if deep == 0 or not isinstance(thing, tuple):
            return False
        return all([self.is_statement(statement, deep - 1) for statement in thing])

    def is_statement(self, thing, deep):
        if is_worded("set", 2, thing):
            return self.is_name(thing[1]) and self.is_looked_at("expression", thing[2])
        if is_worded("if", 3, thing):
            if not self.is_test(thing[1], DEEPEST_TEST) or not are_few_parts(leaves_of(thing[1])):
                return False
            return self.is_body(thing[2], deep) and self.is_body(thing[3], deep)
        if is_worded("choose", 3, thing):
            if not self.is_looked_at("expression", thing[1]) or not self.is_body(thing[3], deep):
                return False
            return self.are_cases(thing[2], deep)
        if is_worded("rounds", 2, thing):
            return is_between(1, 20, thing[1]) and self.is_body(thing[2], deep)
        if self._knocks is not None:
            return False
        if is_worded("form", 2, thing):
            return is_word(thing[1]) and self.is_looked_at("form", thing[2])
        if is_worded("row", 1, thing):
            return self.is_looked_at("expression", thing[1])
        return is_worded("call", 1, thing) and is_between(self._calls[0], self._calls[1], thing[1])

    def are_cases(self, thing, deep):
        if not isinstance(thing, tuple) or len(thing) == 0 or not all([is_pair(case) for case in thing]):
            return False
        if not all([is_held(case[0]) and self.is_body(case[1], deep) for case in thing]):
            return False
        return ascending([case[0] for case in thing])

    def is_name(self, thing):
        return is_word(thing) and (self._knocks is None or thing in self._knocks)

    def is_looked_at(self, sort, thing):
        return self.is_part(sort, thing, DEEPEST_PART) and are_few_parts([thing])

    def is_test(self, thing, deep):
        """Whether a thing is a test of at most so many within one another, however many parts it has."""
        if deep == 0:
            return False
        if is_worded("not", 1, thing):
            return self.is_test(thing[1], deep - 1)
        if is_worded("both", 2, thing) or is_worded("either", 2, thing):
            return self.is_test(thing[1], deep - 1) and self.is_test(thing[2], deep - 1)
        return self.is_part("leaf", thing, DEEPEST_PART + 1)

    def is_part(self, sort, thing, deep):
        """Whether a thing is a part of a sort, of at most so many within one another."""
        if deep == 0 or not is_tuple(1, 4, thing) or not isinstance(thing[0], str) or not self.lets(sort, thing[0]):
            return False
        _, kinds = PARTS[thing[0]]
        if len(thing) != len(kinds) + 1:
            return False
        for kind, item in zip(kinds, thing[1:]):
            if kind in SORTS:
                if not self.is_part(kind, item, deep - 1):
                    return False
            elif not self.is_item(kind, item):
                return False
        return True

    def lets(self, sort, word):
        """Whether a word is one of this sort, and may stand here."""
        if word not in PARTS or PARTS[word][0] != sort or (word == "length" and not self._told):
            return False
        return self._knocks is None or (sort != "form" and word not in OUT_OF_HANDLERS)

    def is_item(self, kind, thing):
        if kind == "integer":
            return is_held(thing)
        if kind == "name":
            return self.is_name(thing)
        if kind == "sensor":
            return is_between(0, self._sensors - 1, thing)
        if kind == "dyad":
            return has(self._form, thing)
        return is_way(thing) if kind == "way" else is_word(thing)


def leaves_of(test):
    """The leaves of a test, as they are written."""
    if test[0] == "not":
        return leaves_of(test[1])
    if test[0] == "both" or test[0] == "either":
        return leaves_of(test[1]) + leaves_of(test[2])
    return [test]


def parts_of(part):
    """A part, and all that stand within it."""
    found = [part]
    for kind, item in zip(PARTS[part[0]][1], part[1:]):
        if kind in SORTS:
            found.extend(parts_of(item))
    return found


def are_few_parts(things):
    """Whether what is looked at at a statement has few enough parts."""
    return sum([len(parts_of(thing)) for thing in things]) <= MOST_PARTS


def unfolded(body, sizes):
    """How many statements and leaves a body has, unfolded; sizes are those of the bodies that it calls."""
    return sum([unfolded_statement(statement, sizes) for statement in body])


def unfolded_statement(statement, sizes):
    word = statement[0]
    if word == "if":
        _, test, one, other = statement
        return 1 + len(leaves_of(test)) + unfolded(one, sizes) + unfolded(other, sizes)
    if word == "choose":
        _, _, cases, last = statement
        return 1 + sum([unfolded(body, sizes) for _, body in cases]) + unfolded(last, sizes)
    if word == "rounds":
        return 1 + statement[1] * unfolded(statement[2], sizes)
    return 1 + sizes[statement[1]] if word == "call" else 1
