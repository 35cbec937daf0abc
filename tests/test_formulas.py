"""Promises 1.4 and 1.5: formulas and enclosures."""

import itertools
import random
import unittest
from fractions import Fraction

from steadycraft.dyads import Format
from steadycraft.errors import Beyond, NoBox, NoFormula, NoInteger, Nought, NoRow, NoWay
from steadycraft.formulas import enclosed, is_enclosure, is_formula, run, undone, whole_of
from tests import support
from tests.support import WAYS, WORDS, dyad, value

F = Format(3, -2, 2)
ONE, NONE, X, Y = ("number", 1), ("number", 0), ("in", 0), ("in", 1)
BIG = ("number", 1000)


def deep(many, word="plus", leaf=X):
    """So many operations within one another."""
    found = leaf
    for _ in range(many):
        found = (word, found, ONE)
    return found


def wide(many):
    """So many operations, few within one another."""
    if many == 0:
        return X
    return ("least", wide((many - 1) // 2), wide(many - 1 - (many - 1) // 2))


def judged(inputs, thing):
    """Whether a thing is a formula, by the document's words."""
    operations = []

    def right(thing, within):
        if type(thing) is not tuple or len(thing) not in (2, 3) or type(thing[0]) is not str:
            return False
        if thing[0] == "in":
            return len(thing) == 2 and type(thing[1]) is int and thing[1] in range(inputs)
        if thing[0] == "number" and len(thing) == 2:
            told = thing[1]
            if type(told) is int:
                return abs(told) <= 1000
            if type(told) is not tuple or len(told) != 2 or [type(part) for part in told] != [int, int]:
                return False
            return 0 < told[1] <= 1000 and abs(told[0]) <= 1000 and support.pair(Fraction(*told)) == told
        if thing[0] not in WORDS or len(thing) != 3 or within == 6:
            return False
        operations.append(thing)
        return right(thing[1], within + 1) and right(thing[2], within + 1)

    return right(thing, 0) and len(operations) <= 12


def no_formulas():
    """What is no formula over two inputs."""
    odd = [("in",), ("in", 2), ("in", -1), ("in", True), ("in", False), ("in", 0, 0), ["in", 0], (["in"], 0),
           ("number", 1001), ("number", -1001), ("number", True), ("number", (2, 4)), ("number", (1, 0)),
           ("number", (1, -2)), ("number", (1001, 2)), ("number", (-1001, 2)), ("number", (1, 1001)), ("number", [1, 2]), ("number", None),
           ("number", (1, 2, 3)), ("number", (True, 2)), ("plus", X), ("plus", X, X, X), ("Plus", X, X),
           ("up", X, X), ["plus", X, X], ("plus", X, ["in", 0]), ("plus", X, ("in", 5)), (b"in", 0), "in0", X + Y,
           deep(7), wide(13), ("plus", wide(12), X), (0, X, X), (None, X, X), ((), X, X), ("in", X, X)]
    return odd + support.junk()


class FormulaTest(unittest.TestCase):
    def test_bounds(self):
        for many in range(7):
            self.assertIs(is_formula(1, deep(many)), True)
            self.assertIs(is_formula(1, deep(many, leaf=("number", (1, 3)))), True)
        for many in (7, 8, 39, 900):
            self.assertIs(is_formula(1, deep(many)), False)
        for many in range(20):
            self.assertIs(is_formula(1, wide(many)), many <= 12)
        shared = X
        for _ in range(38):
            shared = ("plus", shared, shared)
        self.assertIs(is_formula(1, shared), False)

    def test_inputs_and_numbers(self):
        for inputs in range(7):
            for at in range(-1, 8):
                self.assertIs(is_formula(inputs, ("in", at)), 0 <= at < inputs)
            self.assertIs(is_formula(inputs, ("number", 3)), True)
        for told in [1000, -1000, 0, (1000, 999), (-1000, 1), (1, 1000), (0, 1), (-999, 1000)]:
            self.assertIs(is_formula(0, ("number", told)), True)

    def test_what_is_none(self):
        for thing in no_formulas():
            self.assertIs(is_formula(2, thing), False)
            self.assertIs(is_formula(2, ("plus", thing, X)), False)
            self.assertIs(is_formula(2, ("plus", X, thing)), False)

    def test_against_the_words(self):
        chance = random.Random(3)
        told = {True: 0, False: 0}
        for at in range(300):
            formula = support.some_formula(chance, 3, chance.randint(0, 9))
            for thing in [formula] + support.changed(formula, at, 12, support.junk()):
                right = judged(3, thing)
                self.assertIs(is_formula(3, thing), right)
                told[right] += 1
        self.assertGreater(min(told.values()), 200)


class RunTest(unittest.TestCase):
    def outcome(self, values, way, formula, row):
        try:
            return dyad(support.formula_value(values, way, formula, row))
        except support.Lacking:
            return Beyond
        except support.ByNought:
            return Nought

    def check(self, format, values, way, formula, row):
        right = self.outcome(values, way, formula, row)
        if right in (Beyond, Nought):
            for asked in (run, whole_of):
                with self.assertRaises(right):
                    asked(format, way, formula, row)
        else:
            self.assertEqual(run(format, way, formula, row), right)
            self.assertEqual(whole_of(format, way, formula, row), round(value(right)))
        return right

    def test_against_all_dyads(self):
        chance = random.Random(4)
        told = {}
        for _ in range(40):
            format = Format(chance.randint(2, 7), chance.randint(-4, 0), chance.randint(0, 5))
            values = support.all_values(format)
            for _ in range(40):
                inputs = chance.randint(1, 6)
                formula = support.some_formula(chance, inputs, chance.randint(0, 6))
                if is_formula(inputs, formula):
                    row = tuple(chance.randint(-12, 12) for _ in range(inputs))
                    right = self.check(format, values, chance.choice(WAYS), formula, row)
                    told[right] = told.get(right, 0) + 1
        self.assertGreater(min(told[Beyond], told[Nought]), 30)
        self.assertGreater(len(told), 30)

    def test_what_comes_first(self):
        nought, beyond = ("over", ONE, NONE), ("plus", BIG, ONE)
        for formula, right in [(("plus", nought, beyond), Nought), (("plus", beyond, nought), Beyond),
                               (("over", beyond, NONE), Beyond), (("over", NONE, nought), Nought),
                               (("over", BIG, NONE), Beyond), (("over", X, ("minus", X, X)), Nought),
                               (("times", ("number", 28), ("over", ONE, X)), Nought),
                               (("times", ("number", 28), ("number", 2)), Beyond),
                               (("least", nought, BIG), Nought), (("least", BIG, nought), Beyond)]:
            with self.assertRaises(right):
                run(F, "down", formula, (0,))

    def test_rounded_all_along(self):
        third = ("number", (1, 3))
        self.assertEqual(run(F, "down", third, (0,)), (1, -2))
        self.assertEqual(run(F, "up", ("plus", third, third), (0,)), (1, 0))
        self.assertEqual(run(F, "down", ("in", 0), (9,)), (1, 3))
        self.assertEqual(run(F, "up", ("in", 0), (9,)), (5, 1))
        self.assertEqual(run(F, "far", ("greatest", X, Y), (3, -9)), (3, 0))
        self.assertEqual(run(F, "cut", ("least", X, Y), (3, -9)), (-1, 3))

    def test_ends_of_rows(self):
        wide_format = Format(24, 0, 0)
        for row in [(10000,), (-10000,), (10000,) * 6]:
            self.assertEqual(whole_of(wide_format, "near", X, row), row[0])

    def no_rows(self):
        odd = [(), (1,) * 7, (10001,), (-10001,), [1], (True,), (1, None), (1, "2"), 1, ((1,),), (10 ** 199,)]
        junk = [thing for thing in support.junk() if thing not in [(1,), (1, 2), (0, 0), (2, 4), (1, 2, 3)]]
        return odd + junk + [(True,), (1, True)]

    def test_errors_in_order(self):
        for asked in (run, whole_of):
            for way in ("none", None, ["up"], b"up"):
                for formula, row in [(X, (0,)), (None, None), (("over", ONE, NONE), (0,))]:
                    with self.assertRaises(NoWay):
                        asked(F, way, formula, row)
            for row in self.no_rows():
                for formula in [X, None, ("in", 9)]:
                    with self.assertRaises(NoRow):
                        asked(F, "up", formula, row)
            for formula in no_formulas():
                with self.assertRaises(NoFormula):
                    asked(F, "up", formula, (1, 2))
            with self.assertRaises(NoFormula):
                asked(F, "up", ("plus", ("over", ONE, NONE), ("in", 2)), (1, 2))
            with self.assertRaises(NoFormula):
                asked(F, "up", Y, (1,))


def no_boxes():
    odd = [(), ((0, 1),) * 7, ((1, 0),), ((0, 10001),), ((-10001, 0),), ((0, True),), ((0,),), ((0, 1, 2),),
           [(0, 1)], ([0, 1],), ((0, 1), None), ((0, None),), (0, 1), ((0, "1"),)]
    return odd + [thing for thing in support.junk() if thing != ((1, 2),)]


class UndoneTest(unittest.TestCase):
    def test_against_all_rows(self):
        chance = random.Random(9)
        many = 0
        for _ in range(120):
            axes = chance.randint(1, 3)
            format = Format(chance.randint(3, 6), chance.randint(-3, 0), chance.randint(0, 3))
            formula = support.some_formula(chance, axes, chance.randint(0, 4))
            box = tuple((low, low + chance.randint(0, 4)) for low in [chance.randint(-6, 3) for _ in range(axes)])
            values, goal, way = support.all_values(format), chance.randint(-2, 2), chance.choice(WAYS)
            right = []
            for row in itertools.product(*[range(low, high + 1) for low, high in box]):
                try:
                    if round(support.formula_value(values, way, formula, row)) == goal:
                        right.append(row)
                except (support.Lacking, support.ByNought):
                    pass
            self.assertEqual(undone(format, way, formula, box, goal), right)
            many += len(right)
        self.assertGreater(many, 50)

    def test_rows_where_run_raises(self):
        self.assertEqual(undone(F, "near", ("over", ONE, X), ((-1, 1),), 1), [(1,)])
        self.assertEqual(undone(F, "near", X, ((25, 40),), 28), [(27,), (28,)])
        self.assertEqual(undone(F, "up", X, ((0, 3),), 10 ** 199), [])

    def test_up_to_4000_rows(self):
        format = Format(14, 0, 0)
        self.assertEqual(undone(format, "near", X, ((0, 3999),), 3999), [(3999,)])
        self.assertEqual(len(undone(format, "near", Y, ((0, 799), (1, 5)), 3)), 800)
        for box in [((0, 4000),), ((0, 799), (1, 6)), ((-10000, 10000),) * 6]:
            with self.assertRaises(NoBox):
                undone(format, "near", X, box, 0)

    def test_lists_are_new(self):
        found = undone(F, "near", X, ((0, 3),), 1)
        found.append(9)
        self.assertEqual(undone(F, "near", X, ((0, 3),), 1), [(1,)])

    def test_errors_in_order(self):
        for way in ("none", None, ("up",)):
            with self.assertRaises(NoWay):
                undone(F, way, None, None, None)
        for box in no_boxes():
            with self.assertRaises(NoBox):
                undone(F, "up", None, box, None)
        for formula in no_formulas():
            with self.assertRaises(NoFormula):
                undone(F, "up", formula, ((0, 1), (0, 1)), None)
        for goal in [thing for thing in support.junk() if type(thing) is not int]:
            with self.assertRaises(NoInteger):
                undone(F, "up", X, ((0, 1), (0, 1)), goal)


class EnclosureTest(unittest.TestCase):
    def right_parts(self, values, formula, box):
        """The intervals of all parts, by going through what their own parts hold at the ends."""
        found = []
        for part in support.parts(formula):
            if part[0] == "in":
                exact = [Fraction(end) for end in box[part[1]]]
            elif part[0] == "number":
                exact = [Fraction(*part[1]) if isinstance(part[1], tuple) else Fraction(part[1])]
            else:
                exact = self.results(part, found)
            found.append((support.below(values, min(exact)), support.above(values, max(exact))))
        return found

    def results(self, part, found):
        size = len(support.parts(part[2]))
        one, other = found[-1 - size], found[-1]
        if part[0] == "over" and other[0] <= 0 <= other[1]:
            raise support.ByNought()
        return [support.exact(part[0], a, b) for a in one for b in other]

    def cases(self, seed, many):
        chance = random.Random(seed)
        for _ in range(many):
            axes = chance.randint(1, 3)
            format = Format(chance.randint(3, 7), chance.randint(-4, 0), chance.randint(1, 5))
            box = tuple((low, low + chance.randint(0, 3)) for low in [chance.randint(-6, 6) for _ in range(axes)])
            formula = support.some_formula(chance, axes, chance.randint(0, 5))
            yield format, formula, box

    def test_enclosed(self):
        told = {}
        for format, formula, box in self.cases(1, 600):
            values = support.all_values(format)
            try:
                right = tuple((dyad(low), dyad(high)) for low, high in self.right_parts(values, formula, box))
            except (support.Lacking, support.ByNought) as error:
                right = Beyond if isinstance(error, support.Lacking) else Nought
                with self.assertRaises(right):
                    enclosed(format, formula, box)
            else:
                self.assertEqual(enclosed(format, formula, box), right)
                self.assertIs(is_enclosure(format, formula, box, right), True)
            told[right] = told.get(right, 0) + 1
        self.assertGreater(min(told[Beyond], told[Nought], len(told)), 10)

    def test_fact_of_enclosures(self):
        for format, formula, box in self.cases(2, 250):
            try:
                low, high = enclosed(format, formula, box)[-1]
            except (Beyond, Nought):
                continue
            for row in itertools.product(*[range(start, end + 1) for start, end in box]):
                for way in WAYS:
                    self.assertTrue(value(low) <= value(run(format, way, formula, row)) <= value(high))

    def moved(self, values, span, by_low, by_high):
        """An interval whose ends are moved by so many dyads, None beyond them."""
        low, high = values.index(value(span[0])) + by_low, values.index(value(span[1])) + by_high
        if not 0 <= low < len(values) or not 0 <= high < len(values):
            return None
        return (dyad(values[low]), dyad(values[high]))

    def holds(self, values, formula, box, thing):
        """Whether the intervals are an enclosure, by the document's words, part by part."""
        sizes = []
        for at, part in enumerate(support.parts(formula)):
            low, high = [value(end) for end in thing[at]]
            if low > high:
                return False
            if part[0] == "in":
                exact = [Fraction(end) for end in box[part[1]]]
            elif part[0] == "number":
                exact = [Fraction(*part[1]) if isinstance(part[1], tuple) else Fraction(part[1])]
            else:
                size = len(support.parts(part[2]))
                one, other = [[value(end) for end in thing[k]] for k in (at - 1 - size, at - 1)]
                if part[0] == "over" and other[0] <= 0 <= other[1]:
                    return False
                exact = [support.exact(part[0], a, b) for a in one for b in other]
            sizes.append(low <= min(exact) and max(exact) <= high)
        return all(sizes)

    def test_wider_and_narrower_ones(self):
        chance = random.Random(7)
        told = {True: 0, False: 0}
        for format, formula, box in self.cases(3, 300):
            values = support.all_values(format)
            try:
                thing = enclosed(format, formula, box)
            except (Beyond, Nought):
                continue
            for at in range(len(thing)):
                for by_low, by_high in [(-1, 0), (0, 1), (-2, 3), (1, 0), (0, -1), (1, -1)]:
                    span = self.moved(values, thing[at], by_low, by_high)
                    if span is not None:
                        other = thing[:at] + (span,) + thing[at + 1:]
                        right = self.holds(values, formula, box, other)
                        self.assertIs(is_enclosure(format, formula, box, other), right)
                        told[right] += 1
            whole = [self.moved(values, span, -chance.randint(0, 2), chance.randint(0, 2)) for span in thing]
            if None not in whole:
                right = self.holds(values, formula, box, whole)
                self.assertIs(is_enclosure(format, formula, box, tuple(whole)), right)
                told[right] += 1
        self.assertGreater(min(told.values()), 100)

    def test_no_enclosure_where_enclosed_raises(self):
        every = ((-7, 2), (7, 2))
        self.assertIs(is_enclosure(F, X, ((-28, 28),), (every,)), True)
        self.assertIs(is_enclosure(F, X, ((-29, 28),), (every,)), False)
        self.assertIs(is_enclosure(F, BIG, ((0, 0),), (every,)), False)
        sums = ("plus", X, X)
        self.assertIs(is_enclosure(F, sums, ((0, 14),), (((0, 0), (7, 1)),) * 2 + (every,)), True)
        self.assertIs(is_enclosure(F, sums, ((0, 14),), (((0, 0), (7, 1)), ((0, 0), (1, 4)), every)), False)
        divided = ("over", ONE, X)
        one, parts = ((1, 0), (1, 0)), (((1, 0), (1, 1)), ((1, -1), (1, 0)))
        self.assertIs(is_enclosure(F, divided, ((1, 2),), (one,) + parts), True)
        self.assertIs(is_enclosure(F, divided, ((1, 2),), (one, ((0, 0), (1, 1)), every)), False)

    def test_judges_any_object(self):
        box, thing = ((1, 2),), (((1, 0), (1, 1)), ((3, 0), (3, 0)), ((1, -2), (3, -2)))
        third = ("over", X, ("number", 3))
        self.assertIs(is_enclosure(F, third, box, thing), True)
        odd = [list(thing), thing[:2], thing + thing[2:], (), thing[::-1], (list(thing[0]),) + thing[1:]]
        for other in odd + support.junk():
            self.assertIs(is_enclosure(F, third, box, other), False)
            self.assertIs(is_enclosure(F, third, box, thing[:2] + (other,)), False)
            if other != (1, 2):
                self.assertIs(is_enclosure(F, third, box, thing[:2] + (((1, -2), other),)), False)

    def test_errors_in_order(self):
        for asked in (enclosed, lambda *args: is_enclosure(*args, None)):
            for box in no_boxes():
                with self.assertRaises(NoBox):
                    asked(F, None, box)
            for formula in no_formulas():
                with self.assertRaises(NoFormula):
                    asked(F, formula, ((0, 1), (0, 1)))
        for formula, right in [(("plus", ("over", ONE, X), BIG), Nought), (("plus", BIG, ("over", ONE, X)), Beyond),
                               (("over", BIG, X), Beyond), (("over", ONE, X), Nought)]:
            with self.assertRaises(right):
                enclosed(F, formula, ((0, 2),))

    def test_more_rows_than_4000(self):
        format = Format(24, 0, 5)
        self.assertEqual(enclosed(format, ("plus", X, ("in", 5)), ((-10000, 10000),) * 6)[-1],
                         ((-625, 5), (625, 5)))


if __name__ == "__main__":
    unittest.main()
