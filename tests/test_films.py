"""Promise 9.2: films."""

import random
import unittest

from steadycraft.codes import Code
from steadycraft.compiling import compiled
from steadycraft.crafts import Craft
from steadycraft.errors import BadRun, NoNumber, NoRun, NoShape
from steadycraft.films import Film
from steadycraft.programs import Program
from steadycraft.running import ran
from steadycraft.runs import is_run
from steadycraft.steering import shape_of, table_program
from tests import support
from tests.coding import SlowRun
from tests.test_checking import answering
from tests.test_games import falling, line

X = ("in", 0)
END = ("end",)


def coded(craft, *rows, cells=(0, 0, 0)):
    return Code(shape_of(craft), craft.plant.form, cells, (0, 0), rows, len(rows) - 1)


def first_stand(code):
    return (0,) * code.cells[0], (0,) * code.cells[1], ((0, 0),) * code.forms[0]


def some_code(chance, slow):
    """Code of a machine that has all answers; some of it counts its periods, too."""
    craft = slow.craft
    table = table_program(craft, answering(chance, slow, chance.randint(1, 4)))
    if chance.random() < 0.5:
        n = ("name", "n")
        table = Program(table.shape, table.form, ("n",) + table.kept, (), ("x",),
                        ((("set", "n", ("plus", n, ("number", 1))),) + table.bodies[0],), ())
    return compiled(table)[0]


def led(chance, slow, code, many):
    """A run of so many periods in which code chooses; the last one whole, cut short, or without a row."""
    craft = slow.craft
    low, high, _ = craft.lengths
    place = start = chance.choice(craft.starts)
    lacks, length, acts, stand, periods = (0,) * len(craft.sensors), 0, 0, first_stand(code), []
    for at in range(many):
        reading = chance.choice(slow.readings(place, lacks, length))
        lacks = support.lacks_behind(lacks, reading)
        word, found, stand, _, _ = ran(code, stand, reading, ())
        assert word == "done"
        last = at == many - 1
        length = chance.randint(0 if last else low, high)
        pushes = tuple(chance.choice(slow.pushes) for _ in range(length))
        for push in pushes:
            place = slow.goals[place, acts, push]
        acts = acts if found is None else found
        periods.append((reading, None if last and chance.random() < 0.5 else acts, pushes))
    return start, tuple(periods)


class Reel:
    """All that a film tells at each tick, and what its seeks work: reckoned whole from the begin on."""

    def __init__(self, slow, code, run, every):
        self.every = every
        place, periods = run
        row, stand, tick = 0, first_stand(code), 0
        self.ticks = {}
        for number, (reading, chosen, pushes) in enumerate(periods):
            trace = self.trace(code, stand, reading)
            for at in range(len(pushes) + 1):
                if at:
                    place = slow.goals[place, row, pushes[at - 1]]
                self.ticks[tick + at] = (number, place, row, reading, stand, trace)
            tick += len(pushes)
            stand = ran(code, stand, reading, ())[2]
            row = chosen
        self.many = tick
        self.now, self.worked, self.kept = 0, 0, {0}

    def trace(self, code, stand, reading):
        run, numbers = SlowRun(code, stand, reading), []
        while code.rows[run.next][0] != "end":
            numbers.append(run.next)
            run.do(code.rows[run.next])
        return tuple(numbers) + (run.next,)

    def seek(self, tick):
        goal, here = self.ticks[tick][0], self.ticks[self.now][0]
        begins = [number for number in self.kept if number <= goal] + ([here] if here <= goal else [])
        self.worked += goal - max(begins)
        self.kept |= {number for number in range(max(begins), goal + 1) if number % self.every == 0}
        self.now = tick


class FilmTest(unittest.TestCase):
    def check(self, film, reel):
        told = (film.period(), film.place(), film.acts(), film.reading(), film.stand(), film.trace())
        self.assertEqual(told, reel.ticks[reel.now])
        self.assertEqual((film.many(), film.at(), film.worked()), (reel.many, reel.now, reel.worked))
        self.assertEqual(film.kept(), tuple(sorted(reel.kept)))

    def test_there_and_back(self):
        chance, long = random.Random(1501), 0
        for _ in range(70):
            slow = support.Slow(support.some_craft(chance))
            code = some_code(chance, slow)
            run = led(chance, slow, code, chance.choice((1, 1, 2, 3, 5, 9, 14)))
            every = chance.choice((1, 2, 3, 4, 100))
            film, reel = Film(slow.craft, code, run, every), Reel(slow, code, run, every)
            self.check(film, reel)
            for tick in list(range(reel.many + 1)) + list(range(reel.many, -1, -1)):
                self.assertIsNone(film.seek(tick))
                reel.seek(tick)
                self.check(film, reel)
            film, reel = Film(slow.craft, code, run, every), Reel(slow, code, run, every)
            for _ in range(20):
                tick = chance.randint(0, reel.many)
                film.seek(tick)
                reel.seek(tick)
                self.check(film, reel)
            long += reel.many > 6
        self.assertGreater(long, 20)

    def counting(self):
        """A craft that stays, and code that counts its periods."""
        craft = Craft(line(0, 9, X), ((0,), (1,)), ((X, 0, 0),), (2, 2, False), ((5,),))
        code = coded(craft, ("load", 0, 0), ("number", 1, 1), ("plus", 0, 0, 1), ("store", 0, 0), END, cells=(1, 0, 0))
        return craft, code, ((5,), (((5,), 0, ((0,), (0,))),) * 10 + (((5,), None, ()),))

    def test_worked_and_kept(self):
        craft, code, run = self.counting()
        film = Film(craft, code, run, 4)
        self.assertEqual((film.many(), film.at(), film.period(), film.kept(), film.worked()), (20, 0, 0, (0,), 0))
        for tick, period, kept, worked in [(1, 0, (0,), 0), (3, 1, (0,), 1), (18, 9, (0, 4, 8), 9), (19, 9, (0, 4, 8), 9),
                                           (11, 5, (0, 4, 8), 10), (10, 5, (0, 4, 8), 10), (8, 4, (0, 4, 8), 10),
                                           (7, 3, (0, 4, 8), 13), (20, 10, (0, 4, 8), 15), (0, 0, (0, 4, 8), 15),
                                           (6, 3, (0, 4, 8), 18), (9, 4, (0, 4, 8), 18)]:
            film.seek(tick)
            self.assertEqual((film.at(), film.period(), film.kept(), film.worked()), (tick, period, kept, worked))
            self.assertEqual((film.stand(), film.place()), (((period,), (), ()), (5,)))
            self.assertEqual(film.trace(), (0, 1, 2, 3, 4))
        # What is kept reaches as far as the farthest period that was met.
        film = Film(craft, code, run, 3)
        film.seek(20)
        self.assertEqual(film.kept(), (0, 3, 6, 9))
        film = Film(craft, code, run, 5)
        film.seek(20)
        self.assertEqual(film.kept(), (0, 5, 10))

    def test_every(self):
        craft, code, run = self.counting()
        for every in (1, 2, 99, 100):
            self.assertEqual(Film(craft, code, run, every).kept(), (0,))
        for thing in support.junk() + [0, 101, -1, True, 10 ** 199]:
            if type(thing) is not int or not 1 <= thing <= 100:
                with self.assertRaises(NoNumber):
                    Film(craft, code, run, thing)

    def test_seek_beyond_the_end(self):
        craft, code, run = self.counting()
        film = Film(craft, code, run, 3)
        film.seek(7)
        for thing in support.junk() + [21, -1, True, False, 10 ** 199]:
            if type(thing) is not int or not 0 <= thing <= 20:
                with self.assertRaises(NoNumber):
                    film.seek(thing)
                self.assertEqual((film.at(), film.period(), film.worked()), (7, 3, 3))
        film = Film(craft, code, ((5,), (((5,), None, ()),)), 1)
        self.assertEqual((film.many(), film.at(), film.place(), film.acts()), (0, 0, (5,), 0))
        film.seek(0)
        with self.assertRaises(NoNumber):
            film.seek(1)

    def test_periods_at_begins(self):
        craft, code, run = self.counting()
        film = Film(craft, code, run, 3)
        self.assertEqual([self.period_at(film, tick) for tick in (1, 2, 3, 4, 19, 20)], [0, 1, 1, 2, 9, 10])
        whole = Film(craft, code, ((5,), (((5,), 0, ((0,), (0,))),) * 2), 3)
        self.assertEqual([self.period_at(whole, tick) for tick in (1, 2, 3, 4)], [0, 1, 1, 1])
        cut = Film(craft, code, ((5,), (((5,), 0, ((0,), (0,))), ((5,), None, ((0,),)))), 3)
        self.assertEqual([self.period_at(cut, tick) for tick in (1, 2, 3)], [0, 1, 1])

    def period_at(self, film, tick):
        film.seek(tick)
        return film.period()

    def test_errors_in_their_order(self):
        craft, code, run = self.counting()
        other = coded(falling(levers=((0,),)), END)
        bad = ((5,), (((5,), 1, ((0,), (0,))),) * 3)
        for wrong_run in (None, bad, run):
            with self.assertRaises(NoShape):
                Film(craft, other, wrong_run, None)
        for shape in [(2, False, 2), (1, True, 2), (1, False, 1)]:
            with self.assertRaises(NoShape):
                Film(craft, Code(shape, craft.plant.form, (0, 0, 0), (0, 0), (END,), 0), run, 1)
        for thing in support.junk() + [(run[0], ()), (run[0], list(run[1])), ((4,), run[1]), (run[0], run[1][1:] + run[1][:1])]:
            with self.assertRaises(NoRun):
                Film(craft, code, thing, None)
        self.assertIs(is_run(craft, bad), True)
        with self.assertRaises(BadRun):
            Film(craft, code, bad, None)
        with self.assertRaises(NoNumber):
            Film(craft, code, run, None)

    def bad(self, craft, code, run, period):
        self.assertIs(is_run(craft, run), True)
        with self.assertRaises(BadRun) as caught:
            Film(craft, code, run, 1)
        self.assertEqual(caught.exception.period, period)

    def test_bad_runs(self):
        craft, code, run = self.counting()
        start, periods = run
        for at in (0, 3, 9):
            self.bad(craft, code, (start, periods[:at] + (((5,), 1, ((0,), (0,))),) + periods[at + 1:]), at)
        # The row of the last period is asked if it is told.
        self.bad(craft, code, (start, periods[:-1] + (((5,), 1, ()),)), 10)
        Film(craft, code, (start, periods[:-1] + (((5,), 0, ()),)), 1)
        # Row 1 is chosen in the third period alone, and stays chosen.
        rows = (("load", 0, 0), ("number", 1, 1), ("plus", 0, 0, 1), ("store", 0, 0), ("number", 2, 3), ("same", 0, 2, 7), END,
                ("row", 1), END)
        once = coded(craft, *rows, cells=(1, 0, 0))
        self.bad(craft, once, run, 2)
        right = (start, tuple(((5,), 1 if at > 1 else 0, ((0,), (0,))) for at in range(5)))
        self.assertEqual(Film(craft, once, right, 1).many(), 10)
        self.bad(craft, once, (start, right[1][:3] + (((5,), 0, ((0,), (0,))),)), 3)

    def test_runs_in_which_code_is_not_done(self):
        craft, _, run = self.counting()
        start, periods = run
        for row in [("back",), ("go", 7), ("row", 2)]:
            rows = (("load", 0, 0), ("number", 1, 1), ("plus", 0, 0, 1), ("store", 0, 0), ("number", 2, 4), ("same", 0, 2, 7),
                    END, row, END)
            code = coded(craft, *rows, cells=(1, 0, 0))
            self.bad(craft, code, run, 3)
            Film(craft, code, (start, periods[:3]), 1)
            # Of the last period only the row is not asked.
            self.bad(craft, code, (start, periods[:3] + periods[-1:]), 3)

    def test_acts_and_readings(self):
        craft = falling()
        code = coded(craft, ("count", 0, 0), ("number", 1, 3), ("same", 0, 1, 4), END, ("number", 2, 1), ("row", 2), END)
        run = ((2,), (((2,), 0, ((1,),)), ((3,), 1, ((0,),)), ((3,), 1, ((1,),)), ((3,), None, ())))
        film = Film(craft, code, run, 2)
        told = []
        for tick in range(4):
            film.seek(tick)
            told.append((film.period(), film.place(), film.acts(), film.reading(), film.trace()))
        long = (0, 1, 2, 4, 5, 6)
        self.assertEqual(told, [(0, (2,), 0, (2,), (0, 1, 2, 3)), (1, (3,), 0, (3,), long), (2, (3,), 1, (3,), long),
                                (3, (3,), 1, (3,), long)])

    def test_knock_cells_that_bodies_store(self):
        craft, _, run = self.counting()
        rows = (("load", 0, 1), ("number", 1, 1), ("plus", 0, 0, 1), ("store", 1, 0), END)
        film = Film(craft, coded(craft, *rows, cells=(1, 1, 0)), run, 3)
        film.seek(15)
        self.assertEqual(film.stand(), ((0,), (7,), ()))

    def test_copies_go_on_apart(self):
        craft, code, run = self.counting()
        film = Film(craft, code, run, 2)
        film.seek(9)
        other = film.copy()
        self.assertIsInstance(other, Film)
        self.assertEqual((other.at(), other.period(), other.kept(), other.worked(), other.stand(), other.many()),
                         (9, 4, (0, 2, 4), 4, ((4,), (), ()), 20))
        film.seek(20)
        self.assertEqual((other.at(), other.kept(), other.worked()), (9, (0, 2, 4), 4))
        other.seek(1)
        other.seek(6)
        self.assertEqual((other.at(), other.worked(), other.stand()), (6, 5, ((3,), (), ())))
        self.assertEqual((film.at(), film.worked(), film.kept(), film.stand()), (20, 10, (0, 2, 4, 6, 8, 10), ((10,), (), ())))

    def test_equal_to_nothing_else(self):
        craft, code, run = self.counting()
        film = Film(craft, code, run, 2)
        for thing in support.junk():
            self.assertFalse(film == thing)
            self.assertTrue(film != thing)


if __name__ == "__main__":
    unittest.main()
