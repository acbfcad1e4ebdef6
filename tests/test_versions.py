"""[35], [36]: books of rungs led into sheets and back."""

import unittest

from guardrungs.least import alike_machines
from guardrungs.machines import machine_of
from guardrungs.rungs import Rungs
from guardrungs.rungtexts import rungs_from
from guardrungs.sheets import Sheet
from guardrungs.sheettexts import sheet_from
from guardrungs.ticks import KINDS
from guardrungs.unwired import cells_of, rungs_of_sheet
from guardrungs.versions import sheet_of_rungs, versions_of
from tests.checks import Case, is_tuples
from tests.plain import Chance, edges, run_rungs, run_sheet


class TestVersions(Case):
    def look_at_shape(self, book, sheet, pairs):
        self.assertEqual((sheet.inputs, sheet.outputs), (book.inputs, book.outputs))
        self.assertTrue(is_tuples(pairs))
        names = book.outputs + book.cells + tuple(t[0] for t in book.timers) + tuple(u[0] for u in book.counters)
        self.assertEqual(tuple(name for name, _ in pairs), names)
        kinds = [block[1] for block in sheet.blocks]
        self.assertNotIn("hold", kinds)
        self.assertEqual(sorted((b[1], b[3]) for b in sheet.blocks if b[1] in KINDS), sorted(t[1:] for t in book.timers))
        self.assertEqual(sorted(b[3] for b in sheet.blocks if b[1] == "count"), sorted(u[1] for u in book.counters))
        self.assertLessEqual(kinds.count("cell"), len(names) + sum(len(edges(rung[0])) for rung in book.rungs))
        wires = set(book.inputs) | {block[0] for block in sheet.blocks}
        self.assertLessEqual({wire for _, wire in pairs}, wires)

    def test_by_chance(self):
        for number in range(150):
            chance = Chance(number)
            book = chance.rungs(rungs=7, timers=2, counters=2)
            readings = chance.readings(2, 40)
            sheet, pairs = versions_of(book)
            self.look_at_shape(book, sheet, pairs)
            answers, shown = run_rungs(book, readings)
            told, bits = run_sheet(sheet, readings)
            self.assertEqual(told, answers)
            self.assertEqual(sheet.run(readings), answers)
            for at in range(len(readings)):
                for name, wire in pairs:
                    self.assertEqual(bits[at][wire], shown[at][name], (number, at, name))
            other = sheet_of_rungs(book)
            self.assertEqual((other.inputs, other.blocks, other.wiring), (sheet.inputs, sheet.blocks, sheet.wiring))
            cut = 13
            standing = sheet.run_from(sheet.start(), readings[:cut])[1]
            self.assertEqual(sheet.run_from(standing, readings[cut:])[0], answers[cut:])

    def test_put_of_an_input_may_give_the_input(self):
        book = rungs_from("rungs\ninputs i\noutputs x\ncells\ni : put x")
        sheet, pairs = versions_of(book)
        self.assertEqual(sheet.run([(1,), (0,)]), ((1,), (0,)))
        self.look_at_shape(book, sheet, pairs)

    def test_name_that_nothing_writes(self):
        book = rungs_from("rungs\ninputs i\noutputs x y\ncells c\n(x or i) : put y")
        sheet, pairs = versions_of(book)
        self.look_at_shape(book, sheet, pairs)
        self.assertEqual(sheet.run([(1,), (0,)]), ((0, 1), (0, 0)))

    def test_names_like_those_that_are_made(self):
        book = rungs_from("rungs\ninputs w0 w2\noutputs w1 w3\ncells w4\n(w0 and not w4) : put w1\nrise w2 : set w3, not w4")
        readings = Chance(3).readings(2, 20)
        self.assertEqual(sheet_of_rungs(book).run(readings), book.run(readings))

    def test_no_outputs_no_rungs(self):
        sheet, pairs = versions_of(Rungs(("i",), (), (), ()))
        self.assertEqual((sheet.run([(1,)]), pairs), (((),), ()))


class TestUnwired(Case):
    def test_by_chance(self):
        for number in range(150):
            chance = Chance(number)
            sheet = chance.sheet(blocks=10)
            readings = chance.readings(2, 30)
            book, pairs = cells_of(sheet)
            self.assertEqual((book.inputs, book.outputs), (sheet.inputs, sheet.outputs))
            self.assertTrue(is_tuples(pairs))
            self.assertEqual(tuple(wire for wire, _ in pairs), tuple(block[0] for block in sheet.blocks))
            names = set(book.outputs + book.cells) | {t[0] for t in book.timers} | {u[0] for u in book.counters}
            self.assertLessEqual({name for _, name in pairs}, names)
            answers, bits = run_sheet(sheet, readings)
            told, shown = run_rungs(book, readings)
            self.assertEqual(told, answers)
            self.assertEqual(book.run(readings), answers)
            for at in range(len(readings)):
                for wire, name in pairs:
                    self.assertEqual(shown[at][name], bits[at][wire])
            other = rungs_of_sheet(sheet)
            self.assertEqual((other.rungs, other.cells, other.timers), (book.rungs, book.cells, book.timers))
            standing = book.run_from(book.start(), readings[:11])[1]
            self.assertEqual(book.run_from(standing, readings[11:])[0], answers[11:])

    def test_example(self):
        book = rungs_of_sheet(sheet_from("sheet\ninputs i\na = cell i\nb = cell a\noutput x b"))
        self.told(((0,), (0,), (1,), (0,)), book.run, [(1,), (0,), (0,), (1,)])
        self.told(((0,), (0,), (1,), (0,)), sheet_of_rungs(book).run, [(1,), (0,), (0,), (1,)])

    def test_names_like_those_that_are_made(self):
        text = "sheet\ninputs w0 n0\nw1 = cell w2\nw2 = odd w1 w0\nn1 = cell n0\noutput w2 w1\noutput n1 w2\noutput w3 n1"
        sheet = sheet_from(text)
        readings = Chance(1).readings(2, 20)
        self.assertEqual(rungs_of_sheet(sheet).run(readings), sheet.run(readings))
        self.assertEqual(rungs_of_sheet(Sheet((), (), ())).run([()]), ((),))


class TestThereAndBack(Case):
    def test_stay_alike_as_often_as_one_likes(self):
        for number in range(25):
            chance = Chance(number)
            first = chance.rungs(rungs=4, timers=1, counters=1)
            readings = chance.readings(2, 40)
            book = first
            for _ in range(3):
                sheet = sheet_of_rungs(book)
                self.assertEqual(sheet.run(readings), first.run(readings))
                book = rungs_of_sheet(sheet)
                self.assertEqual(book.run(readings), first.run(readings))

    def test_alike_by_their_machines(self):
        for number in range(25):
            chance = Chance(number)
            book = chance.rungs(rungs=4, cells=1, timers=number % 2, counters=0)
            machine = machine_of(book)
            self.assertTrue(alike_machines(machine, machine_of(sheet_of_rungs(book))))
            sheet = chance.sheet(blocks=6)
            self.assertTrue(alike_machines(machine_of(sheet), machine_of(rungs_of_sheet(sheet))))


if __name__ == "__main__":
    unittest.main()
