"""Each kind of book is a book like any other."""

import unittest

from guardrungs.alarms import Watched
from guardrungs.alike import alike
from guardrungs.arenas import Arena, Game
from guardrungs.carried import Carrier
from guardrungs.desks import Desk
from guardrungs.drums import Drummed
from guardrungs.errors import BadRow
from guardrungs.eyes import deaf
from guardrungs.forgets import healing
from guardrungs.formsof import chain_of, rungs_of, sheet_of
from guardrungs.freeplants import Both
from guardrungs.freest import Freest
from guardrungs.freestplain import Widest
from guardrungs.handing import Handed
from guardrungs.hangs import Stuck, hanging
from guardrungs.joined import joined_books
from guardrungs.joining import Beside, Bent, InRow
from guardrungs.keptbits import standing_codes
from guardrungs.machines import Machine, machine_of
from guardrungs.papers import is_paper, lean_paper
from guardrungs.plants import Plant
from guardrungs.safemoments import Changed
from guardrungs.tables import Table
from guardrungs.tasks import Tasks
from guardrungs.wishes import Wish
from tests.checks import NO_ROWS, Case, is_tuples
from tests.plain import Chance, rows
from tests.test_tables import DOOR


def all_books():
    """One book of each kind, by its name."""
    chance = Chance(471)
    rungs, sheet = chance.rungs(inputs=1, outputs=1, cells=1, rungs=3), chance.sheet(inputs=1, outputs=1, blocks=4)
    chain, one, two = chance.chain(inputs=1, outputs=1), chance.machine(3, 1, 1), chance.machine(4, 1, 1)
    free = Table(Game(Arena(DOOR, 0, 1), Wish((), ())))
    shut = Table(Game(free.game.arena, Wish((((0, 1),),), ())))
    wide = Game(Arena(DOOR, 0, None), Wish((), ()))
    chart = (((1,), (0,)), ((1, 0), (1, 0)))
    told = {"rungs": rungs, "sheet": sheet, "chain": chain, "machine": one, "beside": Beside(one, sheet),
            "row": InRow(one, two), "bent": Bent(Beside(one, two), (0, 0)), "stuck": Stuck(two, 0, 1),
            "freest": Freest(free), "drummed": Drummed(free, [(0,), (1,)], begin=1), "widest": Widest(free),
            "both": Both(rungs, two), "joined": joined_books(one, sheet, wide, wide),
            "asked": joined_books(Freest(free), Freest(shut), wide, wide), "carrier": Carrier(Arena(DOOR, 0, 1), chart),
            "deaf": deaf(one, 3, (1,)), "watched": Watched(Arena(DOOR, 0, 1, faults=((0, "stuck0"),), many=1), two),
            "tasks": Tasks(one.inputs, one.outputs, ((one, 2, 1),)), "changed": Changed(one, two, (-1, 2, 0), since=2),
            "handed": Handed(free, shut, since=3), "handed back": Handed(shut, free, since=1)}
    told["tasks of tasks"] = Tasks(one.inputs, one.outputs, ((told["tasks"], 3, 0),))
    return told


def plain_machine(book):
    """The rows of the machine, by meeting standings one by one."""
    standings, told = [book.start()], []
    for standing in standings:
        row = []
        for reading in rows(len(book.inputs)):
            answer, behind = book.step(standing, reading)
            if behind not in standings:
                standings.append(behind)
            row.append((answer, standings.index(behind)))
        told.append(tuple(row))
    return tuple(told), tuple(standings)


class TestAll(Case):
    def test_machines_and_forms(self):
        written = 0
        for name, book in all_books().items():
            with self.subTest(name):
                told, standings = plain_machine(book)
                machine = machine_of(book)
                self.assertEqual((machine.rows, machine.inputs, machine.outputs), (told, book.inputs, book.outputs))
                self.assertTrue(is_tuples((machine.rows, standings)))
                if all(len(standing) == len(standings[0]) for standing in standings):
                    self.told(standings, standing_codes, book)
                self.assertTrue(alike(book, machine))
                if len(machine) <= 64:
                    written += 1
                    for form in (rungs_of, sheet_of, chain_of):
                        self.assertTrue(alike(form(machine), book))

        self.assertGreater(written, 15)

    def test_steps(self):
        for name, book in all_books().items():
            with self.subTest(name):
                readings = Chance(472).readings(len(book.inputs), 20)
                answers, standing = book.run_from(book.start(), [list(row) for row in readings])
                self.assertEqual(answers, book.run(readings))
                self.assertTrue(is_tuples((answers, standing, book.start(), book.inputs, book.outputs)))
                first, middle = book.run_from(book.start(), readings[:7])
                self.assertEqual(first + book.run_from(middle, readings[7:])[0], answers)
                self.assertTrue(all(len(answer) == len(book.outputs) for answer in answers))
                for wrong in NO_ROWS + [(0,) * (len(book.inputs) + 1)]:
                    self.refused(BadRow, {"place": -1}, book.step, book.start(), wrong)
                    self.refused(BadRow, {"place": -1}, book.run, [readings[0], wrong])
                if book.inputs:
                    self.refused(BadRow, {"place": len(book.inputs) - 1}, book.step, book.start(),
                                 (0,) * (len(book.inputs) - 1) + (2,))

    def test_put_together(self):
        for name, book in all_books().items():
            with self.subTest(name):
                machine = machine_of(book)
                readings = Chance(473).readings(len(book.inputs), 16)
                beside = Beside(book, machine)
                self.assertEqual(beside.run([row + row for row in readings]), tuple(a + a for a in book.run(readings)))
                handing = Machine.of_rows(len(book.outputs), len(book.outputs),
                                          [[(row, 0) for row in rows(len(book.outputs))]])
                self.assertEqual(InRow(book, handing).run(readings), book.run(readings))
                tasks = Tasks(book.inputs, book.outputs, ((book, 1, 0),)) if not set(book.inputs) & set(
                    book.outputs) else None
                if tasks is not None and name not in ("watched",):
                    self.assertEqual(tasks.run(readings), book.run(readings))
                self.assertEqual(len(hanging(book)), len(book.outputs))
                self.assertTrue(healing(book) is None or healing(book) >= 0)
                if book.outputs and book.inputs:
                    lean = lean_paper(book, readings[:4], 0)
                    self.assertTrue(is_paper(book, readings[:4], 0, lean))

    def test_watched_and_at_a_desk(self):
        for name, book in all_books().items():
            with self.subTest(name):
                inputs, outputs = len(book.inputs), len(book.outputs)
                plant = Plant(DOOR.machines, outputs, (("level", 0, (1,)),) * inputs)
                arena = Arena(plant, 0, 1, faults=((0, "late"),), many=1)
                readings = [(0,) * inputs] + list(Chance(474).readings(inputs, 12))
                watched = Watched(arena, book)
                self.assertEqual(tuple(answer[:-1] for answer in watched.run(readings)), book.run(readings))
                desk = Desk(Game(arena, Wish((), ())), book)
                for k in range(10):
                    desk.cycle(k * 7)
                self.assertEqual(tuple(step[2] for step in desk), book.run([step[1] for step in desk]))


if __name__ == "__main__":
    unittest.main()
