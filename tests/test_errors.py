"""Promise 0.3: the error classes."""

import unittest

from steadycraft import errors

PLAIN = """NoDyad NoFraction Beyond NoWay Nought NoFractions NoInterval NoRow NoFormula NoBox NoInteger NoPlace NoPush
NoLot NoLever NoRun NoLacks NoLength NoKnowledge NoReading Outside NoStory NoStanding NoNumber NoWish NoNode NoSpoiler
NoIndex NoMachine NoReadings NoChoice NoPoint NoStand NoKnocks NoSpot NoAnswer NoWhat NoShape NotApart NotAwaited
NoArea NothingDone NoThing NoLine NoWishes""".split()
FIELDS = {"BadFormat": "part", "BadPlant": "part", "BadCraft": "part", "TooMany": "most", "BadTelling": "readings",
          "BadProgram": "part", "BadCode": "part", "BadRun": "period", "BadThing": "place", "BadText": "line",
          "NoName": "name"}
ALL = PLAIN + sorted(FIELDS)


def made(name):
    return getattr(errors, name)("some") if name in FIELDS else getattr(errors, name)()


class ErrorsTest(unittest.TestCase):
    def test_there_are_just_these(self):
        self.assertEqual(len(ALL), 56)
        found = [name for name, thing in vars(errors).items() if isinstance(thing, type)]
        self.assertEqual(sorted(found), sorted(ALL + ["CraftError"]))

    def test_bases(self):
        self.assertEqual(errors.CraftError.__bases__, (ValueError,))
        for name in ALL:
            self.assertEqual(getattr(errors, name).__bases__, (errors.CraftError,), name)
            self.assertEqual(getattr(errors, name).__module__, "steadycraft.errors")

    def test_caught_by_own_class_and_bases_alone(self):
        for name in ALL:
            for other in ALL:
                self.assertEqual(isinstance(made(name), getattr(errors, other)), name == other)
            for base in (getattr(errors, name), errors.CraftError, ValueError):
                with self.assertRaises(base):
                    raise made(name)

    def test_fields_hold_whatever_is_passed(self):
        for name, field in FIELDS.items():
            for told in ("box", 3, None, ("row", 2), [1, [2]], {}, b"x", errors.NoDyad, 10 ** 199):
                error = getattr(errors, name)(told)
                self.assertIs(getattr(error, field), told)
                self.assertEqual(list(vars(error)), [field])

    def test_made_with_just_their_fields(self):
        for name in ALL:
            with self.assertRaises(TypeError):
                getattr(errors, name)(1, 2)
            with self.assertRaises(TypeError):
                getattr(errors, name)(*([] if name in FIELDS else [1]))
        for name in PLAIN:
            self.assertEqual(vars(made(name)), {})


if __name__ == "__main__":
    unittest.main()
