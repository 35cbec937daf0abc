"""The whole program: code of choices led through drawn worlds, watched, filmed, told to a desk; and code that is beaten."""

import unittest

from steadycraft.checking import checked_code
from steadycraft.compiling import compiled
from steadycraft.desks import Desk
from steadycraft.errors import BadRun
from steadycraft.films import Film
from steadycraft.games import beaten, least_rank, rank_of, steady
from steadycraft.machines import machine_of
from steadycraft.needs import lot_of, needs
from steadycraft.running import is_apart, ran
from steadycraft.runs import is_run, places_of
from steadycraft.slimming import slim
from steadycraft.steering import table_program
from steadycraft.texts import code_text, craft_text, program_text, read_code, read_craft, read_program, written
from steadycraft.watching import Watch
from steadycraft.wishes import breaks_at, is_breaking
from tests import support
from tests.test_checking import answering
from tests.test_games import some_games


def first_stand(code):
    return (0,) * code.cells[0], (0,) * code.cells[1], ((0, 0),) * code.forms[0]


def choosing(code):
    """A telling by code: the row that is chosen behind some readings."""
    def telling(readings):
        stand, row = first_stand(code), 0
        for reading in readings:
            _, found, stand, _, _ = ran(code, stand, reading, ())
            row = row if found is None else found
        return row
    return telling


class WholeTest(unittest.TestCase):
    def test_code_of_choices(self):
        many = 0
        for chance, play, _ in some_games(1801, 60):
            craft, wishes = play.craft, play.wishes
            word, choice = steady(craft, wishes)
            if word == "made":
                program = table_program(craft, slim(craft, machine_of(craft, wishes, choice)))
                self.assertEqual(read_program(program_text(program)), program)
                code = read_code(code_text(compiled(program)[0]))
                self.assertTrue(is_apart(code))
                for _ in range(4):
                    self.lead(chance, play.slow, wishes, code, chance.randint(1, 12))
                many += 1
        self.assertGreater(many, 25)

    def lead(self, chance, slow, wishes, code, many):
        """Through a drawn world, knocks and all: it ends each period well, within its needs, and keeps all wishes."""
        craft = slow.craft
        low, high, _ = craft.lengths
        most_beats, most_deep, _ = needs(code, lot_of(craft))
        watch, stand, place, row = Watch(craft), first_stand(code), chance.choice(craft.starts), 0
        start, lacks, length, periods = place, (0,) * len(craft.sensors), 0, []
        for _ in range(many):
            reading = chance.choice(slow.readings(place, lacks, length))
            lacks = support.lacks_behind(lacks, reading)
            self.assertEqual(watch.heard(reading), "within")
            self.assertIn(place, watch.places())
            knocks = tuple(sorted(chance.choices(range(30), k=chance.choice((0, 0, 3)))))
            word, found, stand, beats, deep = ran(code, stand, reading, knocks)
            self.assertEqual(word, "done")
            self.assertLessEqual(beats, most_beats)
            self.assertLessEqual(deep, most_deep)
            length = chance.randint(low, high)
            pushes = tuple(chance.choice(slow.pushes) for _ in range(length))
            for push in pushes:
                place = slow.goals[place, row, push]
            row = row if found is None else found
            self.assertEqual(watch.chose(row), "within")
            periods.append((reading, row, pushes))
        run = (start, tuple(periods))
        self.assertIs(is_run(craft, run), True)
        self.assertIsNone(breaks_at(craft, wishes, run))
        self.film(craft, code, run)

    def film(self, craft, code, run):
        """A film of a run shows the places of it."""
        film = Film(craft, code, run, 2)
        places = places_of(craft, run)
        told = [places[0][0]] + [place for period in places for place in period[1:]]
        self.assertEqual(film.many(), len(told) - 1)
        for tick in range(len(told) - 1, -1, -1):
            film.seek(tick)
            self.assertEqual(film.place(), told[tick])

    def test_films_of_what_the_checker_and_spoilers_tell(self):
        checks = spoils = 0
        for chance, play, _ in some_games(1802, 90):
            craft, wishes = play.craft, play.wishes
            code, _ = compiled(table_program(craft, answering(chance, play.slow, chance.randint(1, 3))))
            word, found = checked_code(craft, wishes, code)
            if word == "breaks":
                self.assertIs(is_breaking(craft, wishes, found), True)
                self.film(craft, code, found)
                checks += 1
            word, spoiler = steady(craft, wishes)
            if word == "barred":
                run = beaten(craft, wishes, spoiler, choosing(code))
                self.assertIs(is_breaking(craft, wishes, run), True)
                self.assertLessEqual(len(run[1]), rank_of(craft, wishes, spoiler) + 1)
                self.film(craft, code, run)
                told = checked_code(craft, wishes, code)
                self.assertEqual(told[0], "breaks")
                self.assertLessEqual(len(told[1][1]), least_rank(craft, wishes) + 1)
                spoils += 1
        self.assertGreater(checks, 25)
        self.assertGreater(spoils, 15)

    def test_films_of_faults(self):
        """The checker's run to a fault has a last period that is not done."""
        many = 0
        for chance, play, _ in some_games(1803, 60):
            craft = play.craft
            code, _ = compiled(table_program(craft, answering(chance, play.slow, 2)))
            rows = tuple(("number", row[1], 9) if row[0] == "number" and chance.random() < 0.1 else row for row in code.rows)
            code = type(code)(code.shape, code.form, code.cells, code.forms, rows, code.handler)
            word, run = checked_code(craft, (), code)
            if word == "fault":
                with self.assertRaises(BadRun) as caught:
                    Film(craft, code, run, 1)
                self.assertEqual(caught.exception.period, len(run[1]) - 1)
                many += 1
        self.assertGreater(many, 10)

    def test_at_the_desk(self):
        many = 0
        for chance, play, _ in some_games(1804, 40):
            craft, wishes, desk = play.craft, play.wishes, Desk()
            self.assertEqual(read_craft(craft_text(craft)), craft)
            desk.tell("craft c " + craft_text(craft).replace("\n", ";"))
            desk.tell("wishes w c " + written(wishes))
            told = desk.tell("steer s w")
            word, _ = steady(craft, wishes)
            self.assertEqual(told, "ok" if word == "made" else "barred")
            if told == "ok":
                self.assertEqual(desk.tell("check w s"), "holds")
                desk.tell("watch e c")
                start, periods = support.some_run(chance, play.slow, 6)
                for reading, row, _ in periods:
                    self.assertEqual(desk.tell("heard e " + written(reading)), "within")
                    self.assertGreater(int(desk.tell("places e")), 0)
                    if row is not None:
                        self.assertEqual(desk.tell(f"chose e {row}"), "within")
                many += 1
        self.assertGreater(many, 10)


if __name__ == "__main__":
    unittest.main()
