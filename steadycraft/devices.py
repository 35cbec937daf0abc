"""What programs and code have in common: shapes, stands, readings, and what integers can be held."""

from steadycraft.dyads import has, settled, worked
from steadycraft.errors import Beyond
from steadycraft.kinds import is_between, is_flag, is_row, is_tuple

FARTHEST = 1000000000
NOUGHT = (0, 0)
# What dyads are worked out by, under the words of programs and code.
WORKED = {"fplus": "plus", "fminus": "minus", "ftimes": "times"}


def is_shape(thing):
    """Whether a thing is a triple (sensors, told, rows)."""
    return is_tuple(3, 3, thing) and is_between(1, 3, thing[0]) and is_flag(thing[1]) and is_between(1, 5, thing[2])


def is_held(thing):
    """Whether a thing is an integer that a name, or a register, can hold."""
    return is_between(-FARTHEST, FARTHEST, thing)


def is_stand(form, many, thing):
    """Whether a thing is a stand, of as many kept, knocks and form ones as many tells."""
    if not is_tuple(3, 3, thing):
        return False
    kept, knocks, forms = many
    if not is_row(kept, kept, -FARTHEST, FARTHEST, thing[0]):
        return False
    if not is_row(knocks, knocks, -FARTHEST, FARTHEST, thing[1]):
        return False
    return is_tuple(forms, forms, thing[2]) and all([has(form, dyad) for dyad in thing[2]])


def is_device_reading(shape, thing):
    """Whether a thing is a reading, for devices that know of no craft."""
    sensors, told, _ = shape
    many = sensors + 1 if told else sensors
    if not is_tuple(many, many, thing):
        return False
    if told and not is_between(0, 6, thing[sensors]):
        return False
    return all([count is None or is_held(count) for count in thing[:sensors]])


def combined_within(word, one, other):
    """What comes of two integers by plus, minus or times; None if it can't be held."""
    if word == "plus":
        found = one + other
    elif word == "minus":
        found = one - other
    else:
        found = one * other
    return found if -FARTHEST <= found <= FARTHEST else None


def rounded_within(form, way, held):
    """The dyad that an integer is rounded to; None if there is none."""
    try:
        return settled(form, way, held, 1)
    except Beyond:
        return None


def worked_within(form, way, word, one, other):
    """The dyad that comes of two dyads by fplus, fminus or ftimes; None if there is none."""
    try:
        return worked(form, way, WORKED[word], one, other)
    except Beyond:
        return None
