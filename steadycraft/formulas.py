"""Formulas over dyads: what they come to, and enclosures of that."""

from steadycraft.dyads import is_way, settled, under, whole_near, worked
from steadycraft.errors import Beyond, NoBox, NoFormula, NoInteger, Nought, NoRow, NoWay
from steadycraft.kinds import are_spans, is_between, is_fraction, is_integer, is_one_of, is_row, is_tuple
from steadycraft.kinds import many_rows, rows_of
from steadycraft.spans import about, combined, encloses, is_interval

WORDS = ("plus", "minus", "times", "over", "least", "greatest")
FARTHEST = 10000
MOST_INPUTS = 6


def is_formula(inputs, thing):
    many = operations(inputs, thing, 6)
    return many is not None and many <= 12


def operations(inputs, thing, deep):
    """How many operations a formula has, at most deep within one another; None for no formula."""
    if is_leaf(inputs, thing):
        return 0
    if deep == 0 or not is_tuple(3, 3, thing) or not is_one_of(WORDS, thing[0]):
        return None
    one = operations(inputs, thing[1], deep - 1)
    other = operations(inputs, thing[2], deep - 1)
    if one is None or other is None:
        return None
    return one + other + 1


def is_leaf(inputs, thing):
    """Whether a thing is an input or a number."""
    if not is_tuple(2, 2, thing):
        return False
    word, value = thing
    if is_one_of(("in",), word):
        return is_between(0, inputs - 1, value)
    return is_one_of(("number",), word) and is_number_told(value)


def is_number_told(value):
    if is_fraction(value):
        return is_between(-1000, 1000, value[0]) and value[1] <= 1000
    return is_between(-1000, 1000, value)


def fraction_of(value):
    """Top and bottom of the value of a number."""
    return value if isinstance(value, tuple) else (value, 1)


def result(format, way, formula, row):
    """What a formula comes to, as a dyad."""
    word = formula[0]
    if word == "in":
        return settled(format, way, row[formula[1]], 1)
    if word == "number":
        top, bottom = fraction_of(formula[1])
        return settled(format, way, top, bottom)
    one = result(format, way, formula[1], row)
    other = result(format, way, formula[2], row)
    if word == "least":
        return other if under(other, one) else one
    if word == "greatest":
        return other if under(one, other) else one
    return worked(format, way, word, one, other)


def whole_result(format, way, formula, row):
    return whole_near(result(format, way, formula, row))


def check_run(way, formula, row):
    if not is_way(way):
        raise NoWay()
    if not is_row(1, MOST_INPUTS, -FARTHEST, FARTHEST, row):
        raise NoRow()
    if not is_formula(len(row), formula):
        raise NoFormula()


def run(format, way, formula, row):
    check_run(way, formula, row)
    return result(format, way, formula, row)


def whole_of(format, way, formula, row):
    check_run(way, formula, row)
    return whole_result(format, way, formula, row)


def is_range(thing):
    """Whether a thing is a box of rows for a formula."""
    return are_spans(1, MOST_INPUTS, -FARTHEST, FARTHEST, thing)


def undone(format, way, formula, box, goal):
    if not is_way(way):
        raise NoWay()
    if not is_range(box) or many_rows(box) > 4000:
        raise NoBox()
    if not is_formula(len(box), formula):
        raise NoFormula()
    if not is_integer(goal):
        raise NoInteger()
    return [row for row in rows_of(box) if comes_to(format, way, formula, row, goal)]


def comes_to(format, way, formula, row, goal):
    try:
        found = whole_result(format, way, formula, row)
    except (Nought, Beyond):
        return False
    return found == goal


def check_box(formula, box):
    if not is_range(box):
        raise NoBox()
    if not is_formula(len(box), formula):
        raise NoFormula()


def enclosed(format, formula, box):
    check_box(formula, box)
    return steps_over(format, formula, box)


def steps_over(format, formula, box):
    """The intervals of all parts of a formula, its own one last."""
    if formula[0] not in WORDS:
        return (leaf_over(format, formula, box),)
    ones = steps_over(format, formula[1], box)
    others = steps_over(format, formula[2], box)
    return ones + others + (combined(format, formula[0], ones[-1], others[-1]),)


def leaf_over(format, formula, box):
    """The least interval that holds an input's integers, or a number."""
    if formula[0] == "in":
        low, high = box[formula[1]]
        return about(format, [(low, 1), (high, 1)])
    return about(format, [fraction_of(formula[1])])


def is_enclosure(format, formula, box, thing):
    check_box(formula, box)
    many = many_parts(formula)
    if not is_tuple(many, many, thing):
        return False
    return all([is_interval(format, span) for span in thing]) and steps_hold(format, formula, box, thing)


def many_parts(formula):
    if formula[0] not in WORDS:
        return 1
    return many_parts(formula[1]) + many_parts(formula[2]) + 1


def steps_hold(format, formula, box, spans):
    """Whether each of a formula's intervals holds what comes of those of its parts."""
    try:
        step = last_step(format, formula, box, spans)
    except (Nought, Beyond):
        return False
    if not encloses(spans[-1], step):
        return False
    if formula[0] not in WORDS:
        return True
    cut = many_parts(formula[1])
    if not steps_hold(format, formula[1], box, spans[:cut]):
        return False
    return steps_hold(format, formula[2], box, spans[cut:-1])


def last_step(format, formula, box, spans):
    if formula[0] not in WORDS:
        return leaf_over(format, formula, box)
    return combined(format, formula[0], spans[many_parts(formula[1]) - 1], spans[-2])
