"""Promises 1.1 and 1.2: formats, dyads, rounding."""

import itertools
import random
import unittest
from fractions import Fraction

from steadycraft import dyads
from steadycraft.dyads import Format, above, below, dyad_of, has, minus, over, plus, rounded, times, whole, worth
from steadycraft.errors import BadFormat, Beyond, NoDyad, NoFraction, Nought, NoWay
from tests import support
from tests.support import WAYS, dyad, pair, value

SMALL = [(2, 0, 0), (2, -1, 1), (3, -2, 2), (3, 1, 3), (4, -3, 0), (2, -3, -3), (5, 0, 2), (2, -9, -6), (3, -14, -12)]
NO_WAYS = [None, 0, True, "", "UP", "upp", "ne", b"up", ["up"], ("up",), "even"]


def no_fractions():
    odd = [None, 1, True, "1", (1,), (1, 2, 3), [1, 2], (1, 0), (0, 0), (1, -2), (-1, -2), (2, 4), (0, 2), (6, 3),
           (True, 2), (1, True), (1, None), ("1", 2), ((1, 2), 1), (10 ** 199, 10 ** 198), (1, (2,))]
    return odd + [thing for thing in support.junk() if thing not in [(1, 2)]]


def no_dyads():
    odd = [None, 0, (0,), (0, 1), (0, -1), (2, 0), (-4, 1), [1, 0], (1, 201), (1, -201), (1, 0, 0), (True, 0),
           (1, False), (1, True), (1, None), (None, 1), ("1", 0), ((1,), 0), (1, 10 ** 199), (False, 0)]
    return odd + [thing for thing in support.junk() if thing not in [(0, 0), (1, 2)]]


class FormatTest(unittest.TestCase):
    def test_ends(self):
        for bits, low, high in [(2, -40, -40), (24, 40, 40), (2, -40, 40), (24, 0, 0), (12, -7, 30)]:
            format = Format(bits, low, high)
            self.assertEqual((format.bits, format.low, format.high), (bits, low, high))

    def test_first_wrong_part(self):
        for bits in (1, 25, 0, -2, True, None, "3", (3,), [3], 10 ** 199):
            for low, high in [(0, 0), (-41, 50), (None, None)]:
                with self.assertRaises(BadFormat) as caught:
                    Format(bits, low, high)
                self.assertEqual(caught.exception.part, "bits")
        for low in (-41, 41, False, None, "0", (0,), -10 ** 199):
            for high in (0, 41, None):
                with self.assertRaises(BadFormat) as caught:
                    Format(3, low, high)
                self.assertEqual(caught.exception.part, "low")
        for low, high in [(0, -1), (0, 41), (0, True), (0, None), (5, 4), (-40, "0"), (0, [0]), (40, 39)]:
            with self.assertRaises(BadFormat) as caught:
                Format(3, low, high)
            self.assertEqual(caught.exception.part, "high")

    def test_junk_is_no_part(self):
        for thing in support.junk():
            if type(thing) is int:
                continue
            for at, part in [(0, "bits"), (1, "low"), (2, "high")]:
                told = [3, -2, 2]
                told[at] = thing
                with self.assertRaises(BadFormat) as caught:
                    Format(*told)
                self.assertEqual(caught.exception.part, part)

    def test_equal(self):
        self.assertTrue(Format(3, -2, 2) == Format(3, -2, 2))
        self.assertFalse(Format(3, -2, 2) != Format(3, -2, 2))
        for other in [Format(4, -2, 2), Format(3, -1, 2), Format(3, -2, 3)] + support.junk()[:50]:
            self.assertFalse(Format(3, -2, 2) == other)
            self.assertTrue(Format(3, -2, 2) != other)
        self.assertFalse((3, -2, 2) == Format(3, -2, 2))


class DyadsTest(unittest.TestCase):
    def test_has_just_these(self):
        for told in SMALL:
            format = Format(*told)
            values = set(support.all_values(format))
            for many in range(-70, 71):
                for step in range(-8, 9):
                    is_dyad = many % 2 == 1 or (many, step) == (0, 0)
                    self.assertIs(has(format, (many, step)), is_dyad and value((many, step)) in values)

    def test_has_of_many_bits(self):
        format = Format(24, -40, 40)
        top = 2 ** 24 - 1
        for thing in [(top, 40), (-top, 40), (top, -40), (1, -40), (1, 63), (-1, 63), (0, 0), (3, 62)]:
            self.assertIs(has(format, thing), True)
        for thing in [(1, 64), (top + 2, 40), (top, 41), (1, -41), (top, -41), (1, 200), (1, -200), (5, 62),
                      (top + 2, -40), (10 ** 199 + 1, 0)]:
            self.assertIs(has(format, thing), False)

    def test_has_of_what_is_no_dyad(self):
        for thing in no_dyads():
            self.assertIs(has(Format(24, -40, 40), thing), False)

    def test_worth(self):
        for thing, told in [((0, 0), (0, 1)), ((3, -2), (3, 4)), ((-3, 2), (-12, 1)), ((1, 200), (2 ** 200, 1)),
                            ((-1, -200), (-1, 2 ** 200)), ((10 ** 199 + 1, -1), (10 ** 199 + 1, 2))]:
            self.assertEqual(worth(thing), told)

    def test_whole(self):
        for many in range(-41, 42, 2):
            for step in range(-6, 4):
                self.assertEqual(whole((many, step)), round(value((many, step))))
        for thing, told in [((1, -1), 0), ((3, -1), 2), ((5, -1), 2), ((-1, -1), 0), ((-3, -1), -2), ((-5, -1), -2),
                            ((0, 0), 0), ((1, -200), 0), ((3, 200), 3 * 2 ** 200), ((3, -2), 1), ((-3, -2), -1)]:
            self.assertEqual(whole(thing), told)
        huge = 10 ** 199 + 1
        self.assertEqual(whole((huge, -200)), round(Fraction(huge, 2 ** 200)))

    def test_no_dyad(self):
        for thing in no_dyads():
            for asked in (worth, whole):
                with self.assertRaises(NoDyad):
                    asked(thing)

    def test_no_fraction(self):
        format = Format(3, -2, 2)
        for thing in no_fractions():
            for asked in (above, below, dyad_of):
                with self.assertRaises(NoFraction):
                    asked(format, thing)
            for way in ("up", "none", None):
                with self.assertRaises(NoFraction):
                    rounded(format, thing, way)


def fractions_about(format):
    """The dyads of a format, what lies between them, and just beyond them."""
    values = support.all_values(format)
    found = list(values)
    for low, high in zip(values, values[1:]):
        found += [low + (high - low) * part for part in (Fraction(1, 2), Fraction(1, 3), Fraction(7, 10))]
        found += [low + (high - low) / 10 ** 40, high - (high - low) / 10 ** 40]
    for end in (values[0], values[-1]):
        found += [end * Fraction(10 ** 50 + 1, 10 ** 50), end * 2, end * 10 ** 100, end * Fraction(3, 2)]
    found += [Fraction(1, 10 ** 190), -Fraction(1, 10 ** 190), Fraction(10 ** 199), -Fraction(10 ** 199)]
    return found


class RoundingTest(unittest.TestCase):
    def same(self, told, asked, *args):
        """What asked tells is what told tells, or both find nothing."""
        try:
            right = dyad(told())
        except support.Lacking:
            right = Beyond
        except support.ByNought:
            right = Nought
        if right in (Beyond, Nought):
            with self.assertRaises(right):
                asked(*args)
        else:
            self.assertEqual(asked(*args), right, args)
        return right

    def test_against_all_dyads(self):
        for told in SMALL:
            format = Format(*told)
            values = support.all_values(format)
            for exact in fractions_about(format):
                self.same(lambda: support.above(values, exact), above, format, pair(exact))
                self.same(lambda: support.below(values, exact), below, format, pair(exact))
                self.assertEqual(dyad_of(format, pair(exact)), dyad(exact) if exact in values else None)
                for way in WAYS:
                    self.same(lambda: support.rounded(values, exact, way), rounded, format, pair(exact), way)

    def test_ends_of_many_bits(self):
        format = Format(24, -40, 40)
        most = (2 ** 24 - 1) * 2 ** 40
        self.assertEqual(above(format, (most, 1)), (2 ** 24 - 1, 40))
        self.assertEqual(below(format, (most + 1, 1)), (2 ** 24 - 1, 40))
        self.assertEqual(above(format, (-most - 1, 1)), (1 - 2 ** 24, 40))
        self.assertEqual(above(format, (1, 2 ** 100)), (1, -40))
        self.assertEqual(below(format, (-1, 2 ** 100)), (-1, -40))
        self.assertEqual(dyad_of(format, (2 ** 63, 1)), (1, 63))
        self.assertIsNone(dyad_of(format, (2 ** 64, 1)))
        self.assertIsNone(dyad_of(format, (2 ** 300, 1)))
        self.assertIsNone(dyad_of(format, (1, 2 ** 300)))
        for way in WAYS:
            for exact in [(most + 1, 1), (2 * most + 1, 2), (-most - 1, 1), (2 ** 64, 1)]:
                with self.assertRaises(Beyond):
                    rounded(format, exact, way)
        for asked, exact in [(above, (most + 1, 1)), (below, (-most - 1, 1)), (above, (10 ** 199, 1))]:
            with self.assertRaises(Beyond):
                asked(format, exact)

    def test_ties(self):
        f = Format(3, -2, 2)
        near = [((9, 1), (1, 3)), ((11, 1), (3, 2)), ((1, 8), (0, 0)), ((3, 8), (1, -1)), ((15, 8), (1, 1)),
                ((13, 8), (3, -1)), ((-9, 1), (-1, 3)), ((-1, 8), (0, 0)), ((15, 1), (1, 4)), ((22, 1), (3, 3))]
        far = [((9, 1), (5, 1)), ((11, 1), (3, 2)), ((1, 8), (1, -2)), ((-9, 1), (-5, 1)), ((-1, 8), (-1, -2))]
        for exact, told in near:
            self.assertEqual(rounded(f, exact, "near"), told, exact)
        for exact, told in far:
            self.assertEqual(rounded(f, exact, "far"), told, exact)

    def test_no_way(self):
        f = Format(3, -2, 2)
        for way in NO_WAYS + support.junk():
            if way in ("up",):
                continue
            for exact in [(1, 3), (100, 1), (1, 1)]:
                with self.assertRaises(NoWay):
                    rounded(f, exact, way)
            for asked in (plus, minus, times, over):
                for one, other in [((1, 0), (1, 0)), (None, 3), ((1, 0), (0, 0))]:
                    with self.assertRaises(NoWay):
                        asked(f, way, one, other)

    def test_no_dyad_of_both(self):
        f = Format(3, -2, 2)
        outside = [(1, -3), (9, 0), (1, 5), (7, 3)]
        for asked in (plus, minus, times, over):
            for thing in no_dyads() + outside:
                with self.assertRaises(NoDyad):
                    asked(f, "up", thing, (0, 0))
                with self.assertRaises(NoDyad):
                    asked(f, "up", (7, 2), thing)

    def test_nought_ahead_of_beyond(self):
        f = Format(3, -2, 2)
        for one in [(0, 0), (1, 0), (7, 2)]:
            for way in WAYS:
                with self.assertRaises(Nought):
                    over(f, way, one, (0, 0))
        with self.assertRaises(Beyond):
            over(f, "down", (7, 2), (1, -2))

    def test_arithmetic_against_all_dyads(self):
        words = [("plus", plus), ("minus", minus), ("times", times), ("over", over)]
        for told in [(2, 0, 0), (2, -1, 1), (3, -2, 0)]:
            format = Format(*told)
            values = support.all_values(format)
            for one, other in itertools.product(values, values):
                for way in WAYS:
                    for word, asked in words:
                        self.same(lambda: support.rounded(values, support.exact(word, one, other), way),
                                  asked, format, way, dyad(one), dyad(other))

    def test_arithmetic_of_many_bits(self):
        chance = random.Random(12)
        words = [("plus", plus), ("minus", minus), ("times", times), ("over", over)]
        for _ in range(400):
            bits, low = chance.randint(6, 9), chance.randint(-6, 2)
            format = Format(bits, low, low + chance.randint(0, 5))
            values = support.all_values(format)
            for _ in range(10):
                one, other, way = chance.choice(values), chance.choice(values), chance.choice(WAYS)
                word, asked = chance.choice(words)
                self.same(lambda: support.rounded(values, support.exact(word, one, other), way),
                          asked, format, way, dyad(one), dyad(other))

    def test_nought_has_its_dyad_everywhere(self):
        for told in [(2, -40, -40), (2, -40, -5), (24, 40, 40), (2, 0, 0), (5, -40, 40)]:
            format = Format(*told)
            for asked in (above, below, dyad_of):
                self.assertEqual(asked(format, (0, 1)), (0, 0))
            for way in WAYS:
                self.assertEqual(rounded(format, (0, 1), way), (0, 0))
                self.assertEqual(plus(format, way, (1, told[2]), (-1, told[2])), (0, 0))

    def test_step_of_rounding(self):
        for told in SMALL:
            format = Format(*told)
            values = support.all_values(format)
            inside = sorted(exact for exact in fractions_about(format) if values[0] <= exact <= values[-1])
            for way in WAYS:
                found = [value(rounded(format, pair(exact), way)) for exact in inside]
                self.assertEqual(found, sorted(found))
                for exact, one in zip(inside, found):
                    self.assertLessEqual(value(rounded(format, pair(exact), "down")), one)
                    self.assertLessEqual(one, value(rounded(format, pair(exact), "up")))

    def test_no_floats_in_results(self):
        self.assertEqual(dyads.WAYS, WAYS)
        for told in (above(Format(2, 0, 0), (1, 3)), rounded(Format(2, 0, 0), (-1, 3), "cut")):
            self.assertTrue(isinstance(told, tuple) and all(type(item) is int for item in told))


if __name__ == "__main__":
    unittest.main()
