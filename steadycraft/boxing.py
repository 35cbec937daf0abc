"""Boxes about what can be, and the places in them."""

from steadycraft.crafts import box_about, places_in
from steadycraft.errors import NoBox, NoLot, NoNumber
from steadycraft.kinds import ascending, is_between, is_integer, is_tuple
from steadycraft.plants import is_box

MOST_BOXES = 400


def is_integers(thing):
    """Whether a thing is a row of one to three integers, of any size."""
    return is_tuple(1, 3, thing) and all([is_integer(item) for item in thing])


def is_lot_of_rows(thing):
    """Whether a thing is an ascending tuple of one or more such rows, of one length."""
    if not isinstance(thing, tuple) or len(thing) == 0 or not all([is_integers(row) for row in thing]):
        return False
    return all([len(row) == len(thing[0]) for row in thing]) and ascending(thing)


def is_many_boxes(thing):
    return is_between(1, MOST_BOXES, thing)


def boxes(lot, many):
    if not is_lot_of_rows(lot):
        raise NoLot()
    if not is_many_boxes(many):
        raise NoNumber()
    return boxes_about(lot, many)


def boxes_about(lot, many):
    """The least boxes about the parts of a lot, cut at its greatest steps."""
    steps = []
    for at in range(1, len(lot)):
        far = sum([abs(item - other) for item, other in zip(lot[at - 1], lot[at])])
        steps.append((-far, at))
    found, begin = [], 0
    for cut in sorted([at for _, at in sorted(steps)[:many - 1]]) + [len(lot)]:
        found.append(box_about(lot[begin:cut]))
        begin = cut
    return tuple(found)


def boxed(craft, boxes):
    if not isinstance(boxes, tuple) or not all([is_box(len(craft.plant.box), box) for box in boxes]):
        raise NoBox()
    found = {}
    for box in boxes:
        for place in places_in(craft, box):
            found[place] = True
    return tuple(sorted(list(found)))
