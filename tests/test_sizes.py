"""The largest sizes that the document names: each is answered, and soon."""

import random
import unittest

from guardrungs.chainrungs import rungs_of_chain
from guardrungs.chains import Chain
from guardrungs.chaintexts import chain_from, chain_text
from guardrungs.decisions import decided, decision, first_unlike, hangs_on, same_rows
from guardrungs.errors import TooMany
from guardrungs.exclusive import exclusive, overlap
from guardrungs.formsof import chain_of, rungs_of, sheet_of
from guardrungs.formtexts import formula_from, formula_text
from guardrungs.formulas import bit_of, is_plain, names_of, turned
from guardrungs.freechain import doubled_by, marks_reached, stuck_by
from guardrungs.least import alike_machines, classes, least, rounds, told_apart
from guardrungs.lotsofone import covering
from guardrungs.machines import Machine, machine_of
from guardrungs.rungs import Rungs
from guardrungs.rungtexts import rungs_from, rungs_text
from guardrungs.sheets import READS, Sheet, order_of
from guardrungs.sheettexts import sheet_from, sheet_text
from guardrungs.unwired import rungs_of_sheet
from guardrungs.versions import sheet_of_rungs
from tests.checks import Case
from tests.plain import Chance, bit, leaves, rows, run_chain, run_rungs, run_sheet


def parts_in(formula):
    if formula[0] in ("and", "or"):
        return 1 + sum(parts_in(part) for part in formula[1])
    return 1 + parts_in(formula[1]) if formula[0] == "not" else 1


def wide(chance, known, many, with_edges=True):
    """A formula of just so many parts."""
    if many == 1:
        return (chance.pick(("name", "rise", "fall")) if with_edges else "name", chance.pick(known))
    if many == 2:
        return ("not", wide(chance, known, 1, with_edges))
    first = many // 2
    return (chance.pick(("and", "or")),
            (wide(chance, known, first, with_edges), wide(chance, known, many - 1 - first, with_edges)))


class TestFormulas(Case):
    def test_400_parts(self):
        names = [f"i{k}" for k in range(10)]
        for number in range(10):
            chance = Chance(number)
            formula, other = wide(chance, names, 400, False), wide(chance, names, 399, False)
            self.assertEqual(parts_in(formula), 400)
            self.assertEqual(formula_from(formula_text(formula)), formula)
            self.assertTrue(is_plain(formula))
            row = first_unlike(formula, other, names)
            self.assertEqual(row is None, same_rows(formula, other))
            tree = decision(formula, names)
            self.assertEqual(decision(decided(tree), names), tree)
            for name in names:
                self.assertEqual(hangs_on(formula, name), f"'{name}'" in str(tree))
            bits = dict(zip(names, chance.reading(10)))
            self.assertEqual(bit_of(formula, bits), bit(formula, bits))
            self.assertEqual(bit_of(turned(formula), bits), 1 - bit(formula, bits))
            self.assertEqual(names_of(formula), tuple(sorted({leaf[1] for leaf in leaves(formula)})))

    def test_flat_400_parts_and_4000_signs(self):
        formula = ("or", tuple(("name", "a" * 7) for _ in range(360)))
        text = formula_text(formula)
        self.assertGreater(len(text), 3900)
        self.assertEqual(formula_from(text), formula)
        self.assertEqual(formula_from("(" * 200 + "a" + " " * 3500 + ")" * 200), ("name", "a"))


class TestBooks(Case):
    def largest_rungs(self, number, parts=400):
        chance = Chance(number)
        inputs, outputs = [f"i{k}" for k in range(8)], [f"x{k}" for k in range(6)]
        cells = [f"c{k}" for k in range(8)]
        timers = [(f"t{k}", kind, 16) for k, kind in enumerate(("on", "off", "pulse", "on"))]
        counters = [(f"u{k}", 16) for k in range(4)]
        known = inputs + outputs + cells + [f"t{k}" for k in range(4)] + [f"u{k}" for k in range(4)]
        rungs = []
        for k in range(24):
            deeds = [(chance.pick(("put", "not", "set", "reset")), chance.pick(outputs + cells)) for _ in range(2)]
            if k < 4:
                deeds += [("feed", f"t{k}"), ("count", f"u{k}", chance.pick(known))]
            rungs.append((wide(chance, known, parts), tuple(deeds)))
        return Rungs(inputs, outputs, cells, rungs, timers=timers, counters=counters)

    def test_rungs(self):
        for number in range(3):
            book = self.largest_rungs(number)
            readings = Chance(number).readings(8, 200)
            answers = run_rungs(book, readings)[0]
            self.assertEqual(book.run(readings), answers)
            self.assertEqual(rungs_from(rungs_text(book)).rungs, book.rungs)
            sheet = sheet_of_rungs(book)
            self.assertEqual(sheet.run(readings), answers)
            self.assertEqual(rungs_of_sheet(sheet).run(readings), answers)
            book.without(0)
            with self.assertRaises(TooMany):
                machine_of(book)

    def test_rungs_with_many_standings(self):
        # 8 inputs, and almost 500 standings: outputs and cells that keep what they were given.
        inputs = [f"i{k}" for k in range(8)]
        rungs = [(("name", f"i{k}"), (("put", f"c{k}"),)) for k in range(8)]
        rungs += [(wide(Chance(3), inputs + ["c0", "c1"], 400), (("put", "x0"),))]
        machine = machine_of(Rungs(inputs, [f"x{k}" for k in range(6)], [f"c{k}" for k in range(8)], rungs))
        self.assertGreater(len(machine), 256)
        self.assertTrue(alike_machines(machine, least(machine)))

    def test_sheets(self):
        for number in range(3):
            chance = Chance(number)
            inputs, wires = [f"i{k}" for k in range(8)], [f"w{k}" for k in range(40)]
            blocks = []
            for k, wire in enumerate(wires):
                kind = ("on", "off", "pulse", "on", "count", "count", "count", "count")[k // 5] if k % 5 == 0 else chance.pick(
                    ("not", "and", "or", "odd", "choose", "hold", "cell"))
                if kind in ("hold", "cell") and len([b for b in blocks if b[1] in ("hold", "cell")]) == 8:
                    kind = "odd"
                reads = inputs + (wires if kind == "cell" else wires[:k])
                blocks.append((wire, kind, tuple(chance.pick(reads) for _ in range(READS[kind])),
                               16 if kind in ("on", "off", "pulse", "count") else 0))
            sheet = Sheet(inputs, blocks, [(f"x{k}", chance.pick(wires)) for k in range(6)])
            readings = chance.readings(8, 200)
            answers = run_sheet(sheet, readings)[0]
            self.assertEqual(sheet.run(readings), answers)
            self.assertEqual(sheet_from(sheet_text(sheet)).blocks, sheet.blocks)
            book = rungs_of_sheet(sheet)
            self.assertEqual(book.run(readings), answers)
            self.assertEqual(sheet_of_rungs(book).run(readings), answers)
            self.assertEqual(order_of(inputs, blocks), sheet.order)

    def largest_chain(self, number, with_edges=True, parts=400):
        chance = Chance(number)
        inputs, outputs = [f"i{k}" for k in range(8)], [f"x{k}" for k in range(6)]
        cells, steps = [f"c{k}" for k in range(8)], [f"s{k}" for k in range(12)]
        known = inputs + outputs + cells + steps
        told = [(chance.some(steps, 1, 3), wide(chance, known, parts, with_edges), chance.some(steps, 1, 3)) for _ in range(16)]
        acts = []
        for k in range(24):
            name, step = chance.pick((outputs + cells)[k % 14:][:1]), chance.pick(steps)
            acts.append(("show", step, name, k % 4, 16) if k % 14 < 7 else (chance.pick(("set", "reset")), step, name))
        return Chain(inputs, outputs, steps, chance.some(steps, 1, 4), told, acts, cells=cells)

    def test_chains(self):
        for number in range(3):
            chain = self.largest_chain(number)
            readings = Chance(number).readings(8, 200)
            answers = run_chain(chain, readings)[0]
            self.assertEqual(chain.run(readings), answers)
            self.assertEqual(chain_from(chain_text(chain)).transitions, chain.transitions)
            book = rungs_of_chain(chain)
            self.assertEqual(book.run(readings), answers)
            self.assertEqual(sheet_of_rungs(book).run(readings), answers)

    def test_exclusive_chain_as_large_as_can_be(self):
        # Seven layers of transitions, each with a from step in common with many of the layers ahead.
        names = [f"i{k}" for k in range(6)]
        steps = [f"s{k}" for k in range(12)]
        layers = [lambda k: k % 2, lambda k: k // 2 % 2, lambda k: k // 4 % 2, lambda k: k // 3 % 2, lambda k: k // 6,
                  lambda k: k % 3, lambda k: k // 4]
        told = []
        for layer, many in zip(layers, (2, 2, 2, 2, 2, 3, 3)):
            for part in range(many):
                froms = tuple(step for k, step in enumerate(steps) if layer(k) == part)
                told.append((froms, wide(Chance(len(told)), names, 400, False), (steps[0],)))
        chain = Chain(names, (), steps, steps[:3], told, ())
        other = exclusive(chain)
        with self.assertRaises(TooMany):
            overlap(other)
        readings = Chance(1).readings(6, 200)
        start, again = chain.start(), other.start()
        for reading in readings:
            self.assertEqual(other.fired_in(again, reading), chain.fired_in(start, reading))
            start, again = chain.step(start, reading)[1], other.step(again, reading)[1]
            self.assertEqual(start, again)

    def test_free_chain(self):
        steps = [f"s{k}" for k in range(12)]
        arrows = [((steps[k],), (steps[(k + 1) % 12],)) for k in range(10)]
        chain = Chain((), (), steps, steps[:1], [(froms, ("bit", 1), tos) for froms, tos in arrows], ())
        self.assertEqual(len(marks_reached(chain)), 11)
        # All ten can fire at all of the marks: 1024 lots at each.
        more = [((steps[k // 2 % 10 if k < 2 else k],), (steps[k],)) for k in range(10)]
        chain = Chain((), (), steps, steps, [(froms, ("bit", 1), tos) for froms, tos in more], ())
        marks_reached(chain)
        self.assertIsNotNone(doubled_by(chain))
        self.assertIsNone(stuck_by(chain))

    def test_covering_of_eight_steps(self):
        steps = [f"s{k}" for k in range(8)]
        chain = Chain((), (), steps, steps[:4], [((steps[k],), ("bit", 1), (steps[k + 4],)) for k in range(4)], ())
        self.assertEqual(len(covering(chain)), 4)


class TestMachines(Case):
    def largest(self, standings, inputs, outputs, number):
        told = random.Random(number)
        answers = rows(outputs)
        return Machine.of_rows(inputs, outputs, [
            [(told.choice(answers), told.randrange(standings)) for _ in range(1 << inputs)] for _ in range(standings)])

    def test_500_standings_9_inputs_6_outputs(self):
        machine = self.largest(500, 9, 6, 1)
        readings = Chance(1).readings(9, 200)
        self.assertEqual(machine_of(machine).run(readings), machine.run(readings))
        self.assertEqual(len(least(machine)), 500)
        self.assertEqual(classes(machine), tuple(range(500)))
        self.assertEqual(rounds(machine), 1)
        self.assertEqual(len(told_apart(machine, 3, 400)), 1)
        self.assertTrue(alike_machines(machine, least(machine)))
        book = rungs_of(machine)
        self.assertEqual(book.run(readings), machine.run(readings))
        self.assertEqual(rungs_from(rungs_text(rungs_of(self.largest(20, 3, 2, 1)))).run([(1, 1, 1)]),
                         self.largest(20, 3, 2, 1).run([(1, 1, 1)]))

    def test_many_rounds(self):
        # A long way until standings differ, with 9 inputs.
        told = [[((1 if s == 499 else 0,) * 6, min(s + (x % 2), 499)) for x in range(512)] for s in range(500)]
        machine = Machine.of_rows(9, 6, told)
        self.assertEqual(rounds(machine), 499)
        self.assertEqual(len(least(machine)), 500)
        self.assertEqual(len(told_apart(machine, 0, 1)), 499)
        book = rungs_of(machine)
        self.assertTrue(alike_machines(machine_of(book), machine))

    def test_64_standings_6_inputs_6_outputs(self):
        machine = self.largest(64, 6, 6, 2)
        readings = Chance(1).readings(6, 200)
        sheet = sheet_of(machine)
        self.assertEqual(sheet.kept, 6)
        self.assertTrue(machine_of(sheet).rows == machine_of(machine).rows)
        self.assertEqual(sheet.run(readings), machine.run(readings))
        self.assertEqual(chain_of(machine).run(readings), machine.run(readings))

    def test_two_thousand_standings(self):
        told = [[((1 if s == 0 else 0,), (s + (x % 2)) % 2000) for x in range(16)] for s in range(2000)]
        machine = Machine.of_rows(4, 1, told)
        self.assertEqual(len(least(machine_of(machine))), 2000)

    def test_together(self):
        first, second = self.largest(40, 4, 4, 3), self.largest(50, 4, 3, 4)
        both = first + second
        self.assertLessEqual(len(both), 2000)
        self.assertLessEqual(len(first * second), 2000)


if __name__ == "__main__":
    unittest.main()
