"""The device: how it does a period of code, and whether code is apart from its knocks."""

from steadycraft.codes import FORM_REGISTERS, REGISTERS
from steadycraft.devices import NOUGHT, combined_within, is_device_reading, is_stand, rounded_within, worked_within
from steadycraft.dyads import under
from steadycraft.errors import NoKnocks, NoReading, NoStand
from steadycraft.kinds import is_integer, is_tuple
from steadycraft.spans import greater, lesser

HIGHEST_STACK = 16
MOST_BEATS = 100000
MOST_HANDLER_ROWS = 999
MOST_KNOCKS = 20
ENDS_OF_HANDLERS = ("back", "call", "row", "end")

BEATS = {
    "number": 1, "copy": 1, "plus": 1, "minus": 1, "value": 1, "fcopy": 1, "go": 1, "end": 1,
    "load": 2, "store": 2, "fload": 2, "fstore": 2, "count": 2, "lacks": 2, "length": 2, "row": 2,
    "less": 2, "same": 2, "below": 2, "call": 2, "back": 2, "least": 2, "greatest": 2,
    "times": 3, "of": 4, "fplus": 4, "fminus": 4, "ftimes": 6,
}


def do_number(period, row):
    return period.put(row[1], row[2])


def do_copy(period, row):
    return period.put(row[1], period.integers[row[2]])


def do_combined(period, row):
    return period.put(row[1], combined_within(row[0], period.integers[row[2]], period.integers[row[3]]))


def do_load(period, row):
    return period.put(row[1], period.cells[row[2]])


def do_store(period, row):
    period.cells[row[1]] = period.integers[row[2]]
    return True


def do_count(period, row):
    count = period.reading[row[2]]
    return period.put(row[1], 0 if count is None else count)


def do_lacks(period, row):
    return period.put(row[1], 1 if period.reading[row[2]] is None else 0)


def do_length(period, row):
    return period.put(row[1], period.reading[-1])


def do_row(period, row):
    lever = period.integers[row[1]]
    if not 0 <= lever < period.code.shape[2]:
        return False
    period.row = lever
    return True


def do_less(period, row):
    return period.go_if(period.integers[row[1]] < period.integers[row[2]], row[3])


def do_same(period, row):
    return period.go_if(period.integers[row[1]] == period.integers[row[2]], row[3])


def do_below(period, row):
    return period.go_if(under(period.dyads[row[1]], period.dyads[row[2]]), row[3])


def do_go(period, row):
    return period.go_if(True, row[1])


def do_call(period, row):
    if len(period.stack) == HIGHEST_STACK:
        return False
    period.stack.append(period.at)
    period.deep = max(period.deep, len(period.stack))
    return period.go_if(True, row[1])


def do_back(period, row):
    if len(period.stack) == 0:
        return False
    return period.go_if(True, period.stack.pop())


def do_value(period, row):
    return period.fput(row[1], row[2])


def do_fcopy(period, row):
    return period.fput(row[1], period.dyads[row[2]])


def do_fload(period, row):
    return period.fput(row[1], period.form_cells[row[2]])


def do_fstore(period, row):
    period.form_cells[row[1]] = period.dyads[row[2]]
    return True


def do_least(period, row):
    return period.fput(row[1], lesser(period.dyads[row[2]], period.dyads[row[3]]))


def do_greatest(period, row):
    return period.fput(row[1], greater(period.dyads[row[2]], period.dyads[row[3]]))


def do_of(period, row):
    return period.fput(row[2], rounded_within(period.code.form, row[1], period.integers[row[3]]))


def do_worked(period, row):
    one, other = period.dyads[row[3]], period.dyads[row[4]]
    return period.fput(row[2], worked_within(period.code.form, row[1], row[0], one, other))


# Each does a row, and tells whether it could be done.
ACTIONS = {
    "number": do_number, "copy": do_copy, "plus": do_combined, "minus": do_combined, "times": do_combined,
    "load": do_load, "store": do_store, "count": do_count, "lacks": do_lacks, "length": do_length, "row": do_row,
    "less": do_less, "same": do_same, "below": do_below, "go": do_go, "call": do_call, "back": do_back,
    "value": do_value, "fcopy": do_fcopy, "fload": do_fload, "fstore": do_fstore, "least": do_least,
    "greatest": do_greatest, "of": do_of, "fplus": do_worked, "fminus": do_worked, "ftimes": do_worked,
}


class Period:
    """A period of code: what registers and cells hold by now, and the row that is next."""

    def __init__(self, code, stand, reading):
        kept, knocks, forms = stand
        self.code = code
        self.reading = reading
        self.integers = [0] * REGISTERS
        self.dyads = [NOUGHT] * FORM_REGISTERS
        self.cells = list(kept + knocks) + [0] * code.cells[2]
        self.form_cells = list(forms) + [NOUGHT] * code.forms[1]
        self.stack = []
        self.at = 0
        self.row = None
        self.beats = 0
        self.deep = 0

    def stand(self):
        kept, knocks, _ = self.code.cells
        return (tuple(self.cells[:kept]), tuple(self.cells[kept:kept + knocks]),
                tuple(self.form_cells[:self.code.forms[0]]))

    def put(self, register, integer):
        """Puts an integer into a register; False if it is None."""
        if integer is None:
            return False
        self.integers[register] = integer
        return True

    def fput(self, register, dyad):
        if dyad is None:
            return False
        self.dyads[register] = dyad
        return True

    def go_if(self, holds, row):
        if holds:
            self.at = row
        return True

    def does_next(self):
        """Does the row that is next; False if it can't be done."""
        row = self.code.rows[self.at]
        self.at += 1
        action = ACTIONS[row[0]]
        return action(self, row)

    def goes_through(self, knocks):
        """Goes on to the end, with knocks when so many rows were done; the word of the period."""
        rows = self.code.rows
        done, heard = 0, 0
        while self.at < len(rows):
            word = rows[self.at][0]
            while heard < len(knocks) and knocks[heard] == done:
                if word != "end":
                    self.handle()
                heard += 1
            if word != "end" and not self.does_next():
                return "fault"
            self.beats += BEATS[word]
            done += 1
            if self.beats > MOST_BEATS:
                return "late"
            if word == "end":
                return "done"
        return "fault"

    def handle(self):
        """Goes through the handler, and puts back what registers held and what was next."""
        integers, dyads, at = list(self.integers), list(self.dyads), self.at
        rows = self.code.rows
        self.at = self.code.handler
        for _ in range(MOST_HANDLER_ROWS):
            if self.at == len(rows) or rows[self.at][0] in ENDS_OF_HANDLERS or not self.does_next():
                break
        self.integers, self.dyads, self.at = integers, dyads, at


def are_knocks(thing):
    """Whether a thing is a tuple of at most so many numbers, none less than the one ahead."""
    if not is_tuple(0, MOST_KNOCKS, thing) or not all([is_integer(item) and item >= 0 for item in thing]):
        return False
    return all([one <= other for one, other in zip(thing, thing[1:])])


def ran(code, stand, reading, knocks):
    if not is_stand(code.form, (code.cells[0], code.cells[1], code.forms[0]), stand):
        raise NoStand()
    if not is_device_reading(code.shape, reading):
        raise NoReading()
    if not are_knocks(knocks):
        raise NoKnocks()
    period = Period(code, stand, reading)
    word = period.goes_through(knocks)
    return word, period.row, period.stand(), period.beats, period.deep


def first_of(code):
    """The stand of code ahead of its first period."""
    kept, knocks, _ = code.cells
    return (0,) * kept, (0,) * knocks, (NOUGHT,) * code.forms[0]


def undisturbed(code, stand, reading):
    """A period that was gone through without knocks, and its word."""
    period = Period(code, stand, reading)
    word = period.goes_through(())
    return period, word


def rows_from(code, number, leads_nowhere):
    """The numbers of the rows that can be come to from a row; rows of some words lead nowhere."""
    met = [False] * len(code.rows)
    found, todo = [], [number]
    while len(todo) > 0:
        number = todo.pop()
        if number == len(code.rows) or met[number]:
            continue
        met[number] = True
        found.append(number)
        row = code.rows[number]
        if row[0] not in leads_nowhere:
            if row[0] in ("go", "less", "same", "below", "call"):
                todo.append(row[-1])
            if row[0] != "go":
                todo.append(number + 1)
    return found


def is_apart(code):
    kept, knocks, _ = code.cells
    named, form_named = {}, {}
    for number in rows_from(code, 0, ("back", "end")):
        row = code.rows[number]
        if row[0] == "load" and kept <= row[2] < kept + knocks:
            return False
        if row[0] in ("load", "store"):
            named[row[2] if row[0] == "load" else row[1]] = True
        elif row[0] in ("fload", "fstore"):
            form_named[row[2] if row[0] == "fload" else row[1]] = True
    for number in rows_from(code, code.handler, ENDS_OF_HANDLERS):
        row = code.rows[number]
        if row[0] == "store" and (row[1] < kept or row[1] in named):
            return False
        if row[0] == "fstore" and (row[1] < code.forms[0] or row[1] in form_named):
            return False
    return True
