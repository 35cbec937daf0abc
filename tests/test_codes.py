"""Promise 7.4: code, its rows and its parts."""

import copy
import random
import unittest

from steadycraft.codes import Code
from steadycraft.dyads import Format
from steadycraft.errors import BadCode
from tests import support
from tests.coding import ITEMS, first_wrong, some_code

FAR = 10 ** 9
F = Format(3, -2, 2)
RIGHT = {
    "number": [(0, FAR), (5, -FAR)], "copy": [(5, 0)], "plus": [(0, 5, 5)], "minus": [(5, 0, 1)], "times": [(1, 2, 3)],
    "value": [(3, (7, 2)), (0, (0, 0)), (1, (-1, -2))], "fcopy": [(3, 0)], "go": [(0,), (2,)], "end": [()],
    "load": [(5, 5), (0, 0)], "store": [(5, 0)], "fload": [(3, 2)], "fstore": [(2, 3)], "count": [(0, 1)],
    "lacks": [(5, 0)], "length": [(5,)], "row": [(5,)], "less": [(5, 0, 2)], "same": [(0, 0, 0)], "below": [(3, 3, 2)],
    "call": [(2,)], "back": [()], "least": [(3, 0, 3)], "greatest": [(0, 3, 0)], "of": [("up", 3, 5), ("far", 0, 0)],
    "fplus": [("near", 3, 3, 3)], "fminus": [("cut", 0, 1, 2)], "ftimes": [("down", 3, 0, 3)],
}
PAST = {"r": 6, "x": 4, "c": 6, "d": 3, "g": 3, "s": 2, "i": FAR + 1, "v": (9, 0), "w": "off"}


def made(shape=(2, True, 3), form=F, cells=(1, 2, 3), forms=(1, 2), rows=(("end",),), handler=0):
    return Code(shape, form, cells, forms, rows, handler)


class CodeTest(unittest.TestCase):
    def bad(self, part, **told):
        with self.assertRaises(BadCode) as caught:
            made(**told)
        self.assertEqual(caught.exception.part, part)

    def test_parts_in_their_order(self):
        wrong = [("shape", (2, 1, 3)), ("form", F.bits), ("cells", (1, 2)), ("forms", [0, 0]), ("rows", ()),
                 ("handler", 1)]
        for at, (part, _) in enumerate(wrong):
            self.bad(part, **dict(wrong[at:]))
        end = ("end",)
        self.bad(("row", 1), rows=(end, None, None), handler=9)
        self.bad(("row", 0), rows=(("go", 3), end, ("go", 3)), handler=None)
        self.bad("handler", rows=(end, ("go", 1)), handler=2)

    def test_attributes_and_equality(self):
        rows = (("number", 0, 1), ("row", 0), ("end",))
        code = made(rows=rows, handler=1)
        told = {"shape": (2, True, 3), "form": F, "cells": (1, 2, 3), "forms": (1, 2), "rows": rows, "handler": 1}
        for name, value in told.items():
            self.assertEqual(getattr(code, name), value)
        self.assertTrue(code == made(**told))
        self.assertFalse(code != made(**told))
        self.assertEqual(copy.deepcopy(code), code)
        for part, value in [("shape", (2, False, 3)), ("form", Format(3, -2, 3)), ("cells", (2, 1, 3)),
                            ("forms", (2, 1)), ("rows", rows + (("end",),)), ("handler", 2)]:
            other = made(**dict(told, **{part: value}))
            self.assertFalse(code == other)
            self.assertTrue(code != other)
        for thing in support.junk():
            self.assertFalse(code == thing)
            self.assertTrue(code != thing)

    def test_shape_form_cells_forms(self):
        for shape in [(0, True, 1), (4, True, 1), (1, True, 0), (1, True, 6), (1, 0, 1), [1, True, 1]] + support.junk():
            self.bad("shape", shape=shape)
        for form in [one for one in support.junk() if type(one) is not Format]:
            self.bad("form", form=form)
        for cells in [(0, 0, 0), (100000, 100000, 100000)]:
            self.assertEqual(made(cells=cells).cells, cells)
        for cells in [(100001, 0, 0), (0, 100001, 0), (0, 0, 100001), (-1, 0, 0), (True, 0, 0), (0, 0), (0, 0, 0, 0),
                      [0, 0, 0], (0, None, 0)] + [one for one in support.junk() if one != (1, 2, 3)]:
            self.bad("cells", cells=cells)
        for forms in [(0, 0), (100000, 100000)]:
            self.assertEqual(made(forms=forms).forms, forms)
        for forms in [(100001, 0), (0, 100001), (0, -1), (0, True), (0,), (0, 0, 0), [0, 0]] + [
                one for one in support.junk() if one not in ((1, 2), (0, 0), (2, 4)) or type(one[-1]) is bool]:
            self.bad("forms", forms=forms)

    def test_how_many_rows(self):
        rows = (("go", 59999),) * 60000
        self.assertEqual(len(made(rows=rows, handler=59999).rows), 60000)
        self.bad("rows", rows=rows + (("end",),))
        self.bad("rows", rows=[("end",)])
        self.bad(("row", 59999), rows=rows[1:] + (("go", 60000),))
        for thing in support.junk():
            if type(thing) is not tuple or not thing:
                self.bad("rows", rows=thing)
            else:
                self.bad(("row", 0), rows=thing)
            self.bad(("row", 0), rows=(thing,))
            if type(thing) is not int or thing not in (0, 1):
                self.bad("handler", rows=(("end",), ("end",)), handler=thing)

    def test_each_word(self):
        self.assertEqual(set(RIGHT), set(ITEMS))
        fill = (("end",), ("end",))
        for word, told in RIGHT.items():
            for items in told:
                row = (word,) + items
                self.assertEqual(made(rows=(row,) + fill).rows[0], row)
                for other in [row + (0,), row[:-1], list(row), (word.upper(),) + items, (word + "s",) + items,
                              (word.encode(),) + items, (None,) + items]:
                    self.bad(("row", 0), rows=(other,) + fill)
                for at, kind in enumerate(ITEMS[word]):
                    for odd in (PAST[kind], None, "0", (0,), True, [0], -FAR - 1, -1 if kind not in "iv" else FAR + 1):
                        other = row[:at + 1] + (odd,) + row[at + 2:]
                        self.bad(("row", 2), rows=fill + (other,))

    def test_cells_sensors_lengths_such_as_are_there(self):
        self.bad(("row", 0), cells=(0, 0, 0), rows=(("load", 0, 0),))
        self.bad(("row", 0), forms=(0, 0), rows=(("fstore", 0, 0),))
        made(cells=(0, 1, 0), rows=(("load", 0, 0),))
        made(cells=(100000,) * 3, rows=(("store", 299999, 0),))
        self.bad(("row", 0), cells=(100000,) * 3, rows=(("store", 300000, 0),))
        self.bad(("row", 0), shape=(1, True, 3), rows=(("count", 0, 1),))
        self.bad(("row", 0), shape=(1, False, 3), rows=(("length", 0),))
        made(shape=(3, True, 1), rows=(("lacks", 0, 2), ("length", 0)))

    def test_against_the_words(self):
        told = {}
        for at in range(300):
            parts = some_code(random.Random(5000 + at))
            self.assertIsNone(first_wrong(*parts))
            odd = ["end", "go", 0, 5, 6, True, (), (1, 0), "up", ("back",)]
            for thing in [parts] + support.changed(parts, at, 20, odd):
                if type(thing) is not tuple or len(thing) != 6:
                    continue
                wrong = first_wrong(*thing)
                if wrong is None:
                    Code(*thing)
                else:
                    with self.assertRaises(BadCode) as caught:
                        Code(*thing)
                    self.assertEqual(caught.exception.part, wrong)
                kind = wrong[0] if type(wrong) is tuple else wrong
                told[kind] = told.get(kind, 0) + 1
        self.assertGreater(min(told[None], told["row"], told["handler"], told["rows"], told["cells"]), 20)


if __name__ == "__main__":
    unittest.main()
