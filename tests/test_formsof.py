"""[65]: machines written back as rungs, sheet and chain."""

import unittest

from guardrungs.errors import TooMany
from guardrungs.formsof import chain_of, rungs_of, sheet_of
from guardrungs.least import alike_machines, least
from guardrungs.machines import Machine, machine_of
from tests.checks import Case
from tests.plain import Chance, bit, edges, names, rows

RISE = ((((0,), 0), ((1,), 1)), (((0,), 0), ((0,), 1)))


def zeros(standings, inputs, outputs):
    """A machine that goes round, and so has all standings reached."""
    return Machine.of_rows(inputs, outputs, [[((0,) * outputs, (k + 1) % standings)] * (1 << inputs) for k in range(standings)])


class TestForms(Case):
    def machines(self):
        for number in range(60):
            chance = Chance(number)
            standings = 1 + number % 9
            yield chance, chance.machine(standings, number % 4, number % 3)
        for standings in (1, 2, 3, 4, 5, 8, 9):
            yield Chance(standings), zeros(standings, 1, 1)

    def test_example(self):
        rise = Machine.of_rows(1, 1, RISE)
        self.assertEqual(sheet_of(rise).kept, 1)
        self.assertTrue(least(machine_of(chain_of(rise))) == rise)
        self.told(((1,), (0,)), rungs_of(rise).run, [(1,), (1,)])

    def look_at(self, chance, machine, book):
        self.assertEqual((book.inputs, book.outputs), (machine.inputs, machine.outputs))
        readings = chance.readings(len(machine.inputs), 25)
        self.assertEqual(book.run(readings), machine.run(readings))
        standing = book.run_from(book.start(), readings[:10])[1]
        self.assertEqual(book.run_from(standing, readings[10:])[0], machine.run(readings)[10:])
        self.assertTrue(alike_machines(machine_of(book), machine))

    def test_rungs(self):
        for chance, machine in self.machines():
            book = rungs_of(machine)
            self.look_at(chance, machine, book)
            self.assertEqual((book.timers, book.counters), ((), ()))
            for formula, deeds in book.rungs:
                self.assertEqual(edges(formula), [])
                self.assertEqual([deed[0] for deed in deeds], ["put"])
            written = [deeds[0][1] for _, deeds in book.rungs]
            self.assertEqual(sorted(written), sorted(book.outputs + book.cells))
            pairs = {pair for row in machine.rows for pair in row}
            self.assertLessEqual(len(machine_of(book)), 1 + len(pairs))

    def test_sheets(self):
        for chance, machine in self.machines():
            book = sheet_of(machine)
            self.look_at(chance, machine, book)
            kinds = [block[1] for block in book.blocks]
            for kind in ("hold", "on", "off", "pulse", "count"):
                self.assertNotIn(kind, kinds)
            k = 0
            while 2 ** k < len(machine):
                k += 1
            self.assertEqual(kinds.count("cell"), k)
            self.assertEqual(book.kept, k)

    def test_chains(self):
        for chance, machine in self.machines():
            book = chain_of(machine)
            self.look_at(chance, machine, book)
            self.assertEqual(len(book.marked), 1)
            for _, formula, _ in book.transitions:
                self.assertEqual(edges(formula), [])
                self.assertLessEqual(set(names(formula)), set(book.inputs))
            standing = book.start()
            for reading in chance.readings(len(machine.inputs), 25):
                self.assertEqual(len(book.fired_in(standing, reading)), 1)
                standing = book.step(standing, reading)[1]
                self.assertEqual(len(book.marks_in(standing)), 1)
            for reading in rows(len(machine.inputs)):
                bits = dict(zip(machine.inputs, reading))
                met = set()
                for froms, formula, _ in book.transitions:
                    if bit(formula, bits):
                        self.assertFalse(met & set(froms))
                        met |= set(froms)

    def test_names_like_those_that_are_made(self):
        rows_told = Chance(4).machine(5, 3, 3).rows
        for inputs, outputs in [(("c0", "n0", "w0"), ("c1", "n1", "w1")), (("s0", "s1", "t0"), ("s2", "w0", "c2"))]:
            machine = Machine(inputs, outputs, rows_told)
            for form in (rungs_of, sheet_of, chain_of):
                self.look_at(Chance(1), machine, form(machine))

    def test_start_of_a_chain_may_be_left_for_ever(self):
        machine = Machine.of_rows(1, 1, [[((1,), 1), ((0,), 1)], [((0,), 1), ((1,), 1)]])
        self.look_at(Chance(2), machine, chain_of(machine))

    def test_unreached_standings_count_for_the_sheet(self):
        machine = Machine.of_rows(0, 1, [[((0,), 0)]] * 5)
        self.assertEqual(sheet_of(machine).kept, 3)
        self.assertEqual(sheet_of(least(machine)).kept, 0)

    def test_limits_of_rungs(self):
        self.refused(TooMany, {"limit": 500}, rungs_of, zeros(501, 10, 7))
        self.refused(TooMany, {"limit": 9}, rungs_of, zeros(2, 10, 7))
        self.refused(TooMany, {"limit": 6}, rungs_of, zeros(2, 9, 7))
        book = rungs_of(zeros(500, 1, 6))
        self.assertEqual(len(machine_of(book)), 500)

    def test_limits_of_sheets_and_chains(self):
        for form in (sheet_of, chain_of):
            self.refused(TooMany, {"limit": 64}, form, zeros(65, 7, 7))
            self.refused(TooMany, {"limit": 6}, form, zeros(64, 7, 1))
            self.refused(TooMany, {"limit": 6}, form, zeros(64, 1, 7))
            self.assertTrue(alike_machines(machine_of(form(zeros(64, 2, 6))), zeros(64, 2, 6)))


if __name__ == "__main__":
    unittest.main()
