"""Scaled books, held readings and machines that settle."""

import itertools
import unittest

from guardrungs.errors import BadNumber, BadRow, TooMany
from guardrungs.formsof import rungs_of
from guardrungs.least import classes
from guardrungs.machines import Machine, machine_of
from guardrungs.rungs import Rungs
from guardrungs.scaling import held, held_answers, scaled, settles
from tests.checks import NO_BITS, NO_NUMBERS, NO_ROWS, Case
from tests.plain import Chance, rows, run_rungs

EDGE = Rungs(("i",), ("x",), (), ((("rise", "i"), (("put", "x"),)),))


def timed(kind, number):
    rungs = ((("name", "i"), (("feed", "t"),)), (("name", "t"), (("put", "x"),)))
    return Rungs(("i",), ("x",), (), rungs, timers=(("t", kind, number),))


def plain_unheld(book, k, length):
    """The least shortest row up to this length whose last answer is not held, by running all."""
    big = scaled(book, k)
    for many in range(1, length + 1):
        for readings in itertools.product(rows(len(book.inputs)), repeat=many):
            answers = big.run([row for row in readings for _ in range(k)])
            if any(answer != book.run(readings)[-1] for answer in answers[-k:]):
                return readings
    return None


class TestScaled(Case):
    def test_all_else_stays(self):
        chance = Chance(41)
        for _ in range(20):
            book = chance.rungs(timers=2, counters=2)
            for k in (1, 2, 4):
                told = scaled(book, k)
                self.assertIs(type(told), Rungs)
                self.assertEqual(told.timers, tuple((name, kind, n * k) for name, kind, n in book.timers))
                for word in ("inputs", "outputs", "cells", "rungs", "counters"):
                    self.assertEqual(getattr(told, word), getattr(book, word))

    def test_cut_anywhere(self):
        chance = Chance(45)
        for _ in range(20):
            book = scaled(chance.rungs(timers=2, counters=1), 3)
            readings = chance.readings(2, 40)
            answers, middle = book.run_from(book.start(), readings[:13])
            self.assertEqual(answers + book.run_from(middle, readings[13:])[0], run_rungs(book, readings)[0])

    def test_wrong(self):
        for call in (scaled, held_answers):
            for wrong in NO_NUMBERS + [0, 17, -1]:
                self.refused(BadNumber, {"word": "k"}, call, EDGE, wrong)
            self.refused(BadNumber, {"word": "k"}, call, timed("on", 9), 2)
            self.refused(BadNumber, {"word": "k"}, call, timed("pulse", 1), 17)
        self.assertEqual(scaled(timed("off", 8), 2).timers, (("t", "off", 16),))
        self.assertEqual(scaled(timed("on", 0), 16).timers, (("t", "on", 0),))
        self.assertEqual(scaled(timed("pulse", 1), 16).timers, (("t", "pulse", 16),))


class TestHeld(Case):
    def test_held(self):
        self.told(((0, 1), (0, 1), (1,), (1,)), held, [[0, 1], (1,)], 2)
        self.told((), held, (), 16)
        self.told(((), ()), held, [()], 2)
        self.told(((1,),), held, ((1,),), 1)

    def test_wrong(self):
        for wrong in NO_ROWS:
            self.refused(BadRow, {"place": -1}, held, wrong, 0)
            self.refused(BadRow, {"place": -1}, held, [(0,), wrong, (2,)], 0)
        for wrong in NO_BITS:
            self.refused(BadRow, {"place": 2}, held, [(0,), (0, 1, wrong), None], 0)
        for wrong in NO_NUMBERS + [0, 17]:
            self.refused(BadNumber, {"word": "k"}, held, [(0,)], wrong)


class TestHeldAnswers(Case):
    def test_books_that_hold(self):
        for kind in ("on", "off", "pulse"):
            for number in range(1, 5):
                for k in range(1, 17):
                    if number * k <= 16:
                        self.told(None, held_answers, timed(kind, number), k)
        counter = Rungs(("i", "c"), ("x",), (), ((("name", "i"), (("count", "u", "c"),)),
                                                 (("name", "u"), (("put", "x"),))), counters=(("u", 3),))
        for k in (1, 2, 5, 16):
            self.told(None, held_answers, counter, k)

    def test_books_that_do_not(self):
        self.told(((1,),), held_answers, EDGE, 2)
        self.told(None, held_answers, EDGE, 1)

    def test_against_all_rows(self):
        chance = Chance(42)
        met = {}
        for _ in range(250):
            book = chance.rungs(rungs=4, inputs=chance.random.randint(0, 2), outputs=1, cells=1, deep=2)
            k = chance.random.randint(1, 3)
            try:
                told = held_answers(book, k)
            except TooMany:
                continue
            wanted = plain_unheld(book, k, 4)
            if wanted is None:
                self.assertTrue(told is None or len(told) > 4)
            else:
                self.assertEqual(told, wanted)
            met[None if told is None else len(told)] = True
        self.assertGreater(len(met), 3)

    def test_limits(self):
        wide = Rungs(tuple(f"i{k}" for k in range(11)), ("x",), (), ())
        self.refused(TooMany, {"limit": 10}, held_answers, wide, 1)
        self.refused(BadNumber, {"word": "k"}, held_answers, wide, 0)
        ten = Rungs(tuple(f"i{k}" for k in range(10)), ("x",), (), ())
        self.told(None, held_answers, ten, 2)

    def test_many_pairs(self):
        # Held for one cycle the book is led beside itself: as many pairs as standings are met.
        fits, over = two_rings(50, 40), two_rings(69, 29)
        self.assertEqual((len(machine_of(fits)), 69 * 29), (2000, 2001))
        self.told(None, held_answers, fits, 1)
        self.refused(TooMany, {"limit": 2000}, held_answers, over, 1)

    def test_the_row_told_goes_ahead_of_the_limit(self):
        # Pairs that only rows as long as the row told, or longer ones, lead to are not counted.
        ins = tuple(f"i{k}" for k in range(6))
        cells, olds = tuple(f"c{k}" for k in range(6)), tuple(f"d{k}" for k in range(6))
        rungs = [(("name", c), (("put", d),)) for c, d in zip(cells, olds)]
        rungs += [(("name", i), (("put", c),)) for i, c in zip(ins, cells)]
        rungs += [(("bit", 1), (("feed", "t"),)), (("and", (("rise", "i0"), ("name", "t"))), (("put", "x"),))]
        soon = Rungs(ins, ("x",), cells + olds, rungs, timers=(("t", "on", 1),))
        self.told(((0,) * 6, (1,) + (0,) * 5), held_answers, soon, 2)
        late = Rungs(ins, ("x",), cells + olds, rungs, timers=(("t", "on", 2),))
        self.refused(TooMany, {"limit": 2000}, held_answers, late, 2)


def renamed(formula, prefix):
    if formula[0] in ("and", "or"):
        return (formula[0], tuple(renamed(part, prefix) for part in formula[1]))
    if formula[0] == "not":
        return ("not", renamed(formula[1], prefix))
    return (formula[0], prefix + formula[1]) if formula[0] == "name" else formula


def two_rings(first, second):
    """A book of rungs with two inputs, each of which drives a ring of so many standings."""
    rungs, cells = [], []
    for prefix, many in (("p", first), ("q", second)):
        ring = rungs_of(Machine.of_rows(1, 0, [[((), at), ((), (at + 1) % many)] for at in range(many)]))
        rungs += [(renamed(formula, prefix), ((deeds[0][0], prefix + deeds[0][1]),)) for formula, deeds in ring.rungs]
        cells += [prefix + cell for cell in ring.cells]
    return Rungs(("pi0", "qi0"), (), cells, rungs)


class TestSettles(Case):
    def plain(self, machine):
        told = classes(machine)
        reached = {0}
        left = [0]
        while left:
            for _, behind in machine.rows[left.pop()]:
                if behind not in reached:
                    reached.add(behind)
                    left.append(behind)
        for s in reached:
            for number, (answer, behind) in enumerate(machine.rows[s]):
                again, last = machine.rows[behind][number]
                if again != answer or told[last] != told[behind]:
                    return False
        return True

    def test_by_chance(self):
        chance = Chance(43)
        met = {True: 0, False: 0}
        for _ in range(500):
            machine = chance.machine(chance.random.randint(1, 4), chance.random.randint(0, 1), 1)
            self.told(self.plain(machine), settles, machine)
            met[self.plain(machine)] += 1
        self.assertGreater(min(met.values()), 40)

    def test_standings_that_are_not_reached_do_not_count(self):
        rows_told = [[((0,), 0)], [((1,), 0)]]
        self.told(True, settles, Machine((), ("x",), rows_told))
        alike = Machine((), ("x",), [[((0,), 1)], [((0,), 0)]])
        self.told(True, settles, alike)
        self.told(False, settles, Machine((), ("x",), [[((0,), 1)], [((1,), 0)]]))

    def test_settled_books_hold_for_each_k_and_others_do_not(self):
        chance = Chance(44)
        met = {True: 0, False: 0}
        for _ in range(200):
            book = chance.rungs(rungs=3, inputs=1, outputs=1, cells=1, timers=0, counters=0, deep=2)
            machine = machine_of(book)
            met[settles(machine)] += 1
            if settles(machine):
                for k in (1, 2, 3, 16):
                    self.assertIsNone(held_answers(book, k))
            elif len(machine) <= 3:
                self.assertIsNotNone(held_answers(book, {1: 1, 2: 2, 3: 6}[len(machine)]))
        self.assertGreater(min(met.values()), 20)


if __name__ == "__main__":
    unittest.main()
