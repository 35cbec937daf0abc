"""Promise 1.3: intervals."""

import itertools
import random
import unittest
from fractions import Fraction

from steadycraft import spans
from steadycraft.dyads import Format
from steadycraft.errors import Beyond, NoFractions, NoInterval, Nought
from steadycraft.spans import hull, is_interval, joined, met, whole_in
from tests import support
from tests.support import dyad, pair, value

WORDS = [("plus", spans.plus_in), ("minus", spans.minus_in), ("times", spans.times_in), ("over", spans.over_in),
         ("least", spans.least_in), ("greatest", spans.greatest_in)]
F = Format(3, -2, 2)


def between(low, high):
    return dyad(Fraction(low)), dyad(Fraction(high))


def least_interval(values, exact):
    return dyad(support.below(values, min(exact))), dyad(support.above(values, max(exact)))


def no_intervals():
    """What is no interval of F."""
    odd = [((1, 0), (0, 0)), ((1, 0),), ((1, 0), (1, 0), (1, 0)), [(1, 0), (1, 1)], ((1, 0), [1, 1]), ((1, 0), 2),
           ((2, 0), (3, 0)), ((1, -3), (1, 0)), ((1, 0), (1, 5)), ((True, 0), (1, 1)), ((1, False), (1, 1)),
           ((0, 1), (1, 1)), (0, 0), ((-1, 0), (-3, 0)), (None, (1, 0)), ((1, 0), None)]
    return odd + support.junk()


class IntervalTest(unittest.TestCase):
    def test_is_interval(self):
        values = support.all_values(Format(2, -1, 0))
        for low, high in itertools.product(values, values):
            self.assertIs(is_interval(Format(2, -1, 0), (dyad(low), dyad(high))), low <= high)
        for thing in no_intervals():
            self.assertIs(is_interval(F, thing), False)

    def test_hull(self):
        chance = random.Random(1)
        values = support.all_values(F)
        for _ in range(500):
            exact = [Fraction(chance.randint(-99, 99), chance.randint(1, 12)) for _ in range(chance.randint(1, 5))]
            told = [pair(one) for one in exact]
            try:
                right = least_interval(values, exact)
            except support.Lacking:
                right = None
            for kind in (list, tuple):
                if right is None:
                    with self.assertRaises(Beyond):
                        hull(F, kind(told))
                else:
                    self.assertEqual(hull(F, kind(told)), right)

    def test_hull_at_the_ends(self):
        self.assertEqual(hull(F, [(28, 1), (-28, 1)]), ((-7, 2), (7, 2)))
        self.assertEqual(hull(F, [(1, 3)]), ((1, -2), (1, -1)))
        self.assertEqual(hull(F, ((0, 1),)), ((0, 0), (0, 0)))
        for exact in [(281, 10), (-281, 10), (10 ** 199, 1)]:
            with self.assertRaises(Beyond):
                hull(F, [(0, 1), exact])

    def test_no_fractions(self):
        odd = [[], (), [(1, 2), (2, 4)], [(1, 0)], [1], [(1, 2), None], ((1, 2), [1, 2]), {(1, 2): 1}, (1, 2),
               [(True, 2)], iter([(1, 2)]), "12", [(1, 2), (1, 2, 3)], [(1000, 1), (2, 4)]]
        for thing in odd + [thing for thing in support.junk() if thing not in (((1, 2),), [(1, 2)])]:
            with self.assertRaises(NoFractions):
                hull(F, thing)

    def test_met_and_joined(self):
        values = support.all_values(Format(2, 0, 0))
        format = Format(2, 0, 0)
        every = [(low, high) for low in values for high in values if low <= high]
        for one, other in itertools.product(every, every):
            told_one, told_other = between(*one), between(*other)
            low, high = max(one[0], other[0]), min(one[1], other[1])
            right = between(low, high) if low <= high else None
            self.assertEqual(met(format, told_one, told_other), right)
            self.assertEqual(joined(format, told_one, told_other),
                             between(min(one[0], other[0]), max(one[1], other[1])))

    def test_no_interval_of_both(self):
        right, nought = ((-1, 0), (1, 1)), ((0, 0), (0, 0))
        for asked in [met, joined] + [asked for _, asked in WORDS]:
            for thing in no_intervals():
                for other in (right, nought):
                    with self.assertRaises(NoInterval):
                        asked(F, thing, other)
                    with self.assertRaises(NoInterval):
                        asked(F, other, thing)


class ReckoningTest(unittest.TestCase):
    def points(self, low, high):
        """Both ends, and some fractions between."""
        return [low, high, (low + high) / 2, low + (high - low) / 7] + ([Fraction(0)] if low <= 0 <= high else [])

    def test_against_what_both_hold(self):
        for told in [(2, 0, 0), (2, -1, 0)]:
            format = Format(*told)
            values = support.all_values(format)
            every = [(low, high) for low in values for high in values if low <= high]
            pairs = list(itertools.product(every, every))
            for one, other in random.Random(5).sample(pairs, min(len(pairs), 1500)):
                for word, asked in WORDS:
                    self.check(format, values, word, asked, one, other)

    def test_larger_formats(self):
        chance = random.Random(6)
        for _ in range(60):
            format = Format(chance.randint(3, 7), chance.randint(-5, 0), chance.randint(0, 4))
            values = support.all_values(format)
            for _ in range(20):
                one, other = [tuple(sorted((chance.choice(values), chance.choice(values)))) for _ in range(2)]
                word, asked = chance.choice(WORDS)
                self.check(format, values, word, asked, one, other)

    def check(self, format, values, word, asked, one, other):
        args = (format, between(*one), between(*other))
        if word == "over" and other[0] <= 0 <= other[1]:
            with self.assertRaises(Nought):
                asked(*args)
            return
        # Of one part of what both hold the extremes are at ends: the points between must lie within.
        results = [support.exact(word, a, b) for a in self.points(*one) for b in self.points(*other)]
        try:
            right = least_interval(values, results)
        except support.Lacking:
            right = None
        if right is None:
            with self.assertRaises(Beyond):
                asked(*args)
        else:
            self.assertEqual(asked(*args), right, (word, args))

    def test_about_nought_at_ends_and_of_one(self):
        self.assertEqual(spans.times_in(F, between(-1, 2), between(-3, 1)), between(-6, 3))
        self.assertEqual(spans.times_in(F, between(0, 0), between(-28, 28)), between(0, 0))
        self.assertEqual(spans.over_in(F, between(-1, 2), between(-2, -1)), between(-2, 1))
        self.assertEqual(spans.over_in(F, between(1, 1), between(3, 3)), between("1/4", "1/2"))
        self.assertEqual(spans.minus_in(F, between(0, 28), between(0, 28)), between(-28, 28))
        for word, asked in [("plus", spans.plus_in), ("times", spans.times_in)]:
            with self.assertRaises(Beyond):
                asked(F, between(1, 28), between(2, 2))
        for other in [between(0, 0), between(0, 1), between(-1, 0), between(-1, 1)]:
            for one in [between(1, 1), between(0, 0), between(28, 28)]:
                with self.assertRaises(Nought):
                    spans.over_in(F, one, other)
        with self.assertRaises(Beyond):
            spans.over_in(F, between(1, 28), between("1/4", 1))


class WholeInTest(unittest.TestCase):
    def test_least_and_greatest(self):
        for low, high in itertools.product(range(-9, 10), range(-9, 10)):
            if low <= high:
                told = between(Fraction(low, 4), Fraction(high, 4))
                wholes = [round(Fraction(at, 4)) for at in range(low, high + 1)]
                self.assertEqual(whole_in(told), (min(wholes), max(wholes)))

    def test_beyond_all_formats(self):
        self.assertEqual(whole_in(((-1, 200), (10 ** 199 + 1, 3))), (-(2 ** 200), 8 * (10 ** 199 + 1)))
        self.assertEqual(whole_in(((1, -200), (1, -200))), (0, 0))

    def test_no_interval(self):
        odd = [((1, 0), (0, 0)), ((2, 0), (3, 0)), ((1, 201), (1, 201)), [(1, 0), (1, 0)], ((1, 0),), (0, 0),
               ((1, 0), (1, 1), (1, 2)), ((True, 0), (1, 1)), ((1, -201), (1, 0)), ((-1, 0), (-1, 1)),
               ((1, 0), (2, 1)), ((1, 0), (4, 0)), ((1, 0), (1, 201)), ((1, 0), (3, True)), ((0, 0), (0, 1))]
        for thing in odd + support.junk():
            with self.assertRaises(NoInterval):
                whole_in(thing)
        self.assertEqual([value(one) for one in between("1/4", 3)], [Fraction(1, 4), 3])


if __name__ == "__main__":
    unittest.main()
