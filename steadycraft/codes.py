"""Code of the device: registers, cells, and rows that it does one by one."""

from steadycraft.devices import is_held, is_shape
from steadycraft.dyads import Format, has, is_way
from steadycraft.errors import BadCode
from steadycraft.kinds import is_between, is_row, is_tuple

REGISTERS = 6
FORM_REGISTERS = 4
MOST_CELLS = 100000
MOST_ROWS = 60000

# What each row has behind its word.
ITEMS = {
    "number": ("register", "integer"),
    "copy": ("register", "register"),
    "plus": ("register", "register", "register"),
    "minus": ("register", "register", "register"),
    "times": ("register", "register", "register"),
    "value": ("form register", "dyad"),
    "fcopy": ("form register", "form register"),
    "load": ("register", "cell"),
    "store": ("cell", "register"),
    "fload": ("form register", "form cell"),
    "fstore": ("form cell", "form register"),
    "count": ("register", "sensor"),
    "lacks": ("register", "sensor"),
    "length": ("register",),
    "row": ("register",),
    "less": ("register", "register", "row"),
    "same": ("register", "register", "row"),
    "below": ("form register", "form register", "row"),
    "go": ("row",),
    "call": ("row",),
    "back": (),
    "end": (),
    "least": ("form register", "form register", "form register"),
    "greatest": ("form register", "form register", "form register"),
    "of": ("way", "form register", "register"),
    "fplus": ("way", "form register", "form register", "form register"),
    "fminus": ("way", "form register", "form register", "form register"),
    "ftimes": ("way", "form register", "form register", "form register"),
}


class Code:
    """Rows for a device of a shape, its cells, and the row at which knocks are handled."""

    def __init__(self, shape, form, cells, forms, rows, handler):
        if not is_shape(shape):
            raise BadCode("shape")
        if not isinstance(form, Format):
            raise BadCode("form")
        if not is_row(3, 3, 0, MOST_CELLS, cells):
            raise BadCode("cells")
        if not is_row(2, 2, 0, MOST_CELLS, forms):
            raise BadCode("forms")
        if not is_tuple(1, MOST_ROWS, rows):
            raise BadCode("rows")
        self.shape = shape
        self.form = form
        self.cells = cells
        self.forms = forms
        self.rows = rows
        self.handler = handler
        for number, row in enumerate(rows):
            if not self.is_code_row(row):
                raise BadCode(("row", number))
        if not is_between(0, len(rows) - 1, handler):
            raise BadCode("handler")

    def __eq__(self, other):
        if not isinstance(other, Code):
            return False
        if self.shape != other.shape or self.form != other.form or self.cells != other.cells:
            return False
        return self.forms == other.forms and self.rows == other.rows and self.handler == other.handler

    def is_code_row(self, thing):
        """Whether a thing is a row of such code."""
        if not is_tuple(1, 5, thing) or not isinstance(thing[0], str) or thing[0] not in ITEMS:
            return False
        kinds = ITEMS[thing[0]]
        if len(thing) != len(kinds) + 1 or (thing[0] == "length" and not self.shape[1]):
            return False
        return all([self.is_code_item(kind, item) for kind, item in zip(kinds, thing[1:])])

    def is_code_item(self, kind, thing):
        if kind == "integer":
            return is_held(thing)
        if kind == "dyad":
            return has(self.form, thing)
        if kind == "way":
            return is_way(thing)
        return is_between(0, self.how_many(kind) - 1, thing)

    def how_many(self, kind):
        """How many registers, cells, sensors or rows there are."""
        if kind == "register":
            return REGISTERS
        if kind == "form register":
            return FORM_REGISTERS
        if kind == "cell":
            return sum(self.cells)
        if kind == "form cell":
            return sum(self.forms)
        return self.shape[0] if kind == "sensor" else len(self.rows)
