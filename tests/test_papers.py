"""Papers, and what if."""

import itertools
import unittest

from guardrungs.errors import BadLot, BadNumber, BadRow, TooMany
from guardrungs.forgets import forgetting
from guardrungs.hangs import hanging
from guardrungs.joining import Beside
from guardrungs.machines import Machine
from guardrungs.papers import is_paper, lean_paper, told_otherwise, what_if
from guardrungs.rungs import Rungs
from tests.checks import NO_BITS, NO_NUMBERS, NO_ROWS, Case, is_tuples
from tests.plain import Chance

LATCH = Rungs(("i", "j"), ("x",), (), ((("name", "i"), (("set", "x"),)), (("name", "j"), (("reset", "x"),))))


def agreeing(readings, lot):
    """All rows that have the bits of the readings at these pairs."""
    many, inputs = len(readings), len(readings[0])
    for bits in itertools.product((0, 1), repeat=many * inputs):
        row = tuple(bits[c * inputs:(c + 1) * inputs] for c in range(many))
        if all(row[c][k] == readings[c][k] for k, c in lot):
            yield row


def books(chance, number):
    kind = number % 4
    inputs = number % 3
    if kind == 0:
        return chance.rungs(inputs=inputs, rungs=4, timers=number % 2, counters=0)
    if kind == 1:
        return chance.sheet(inputs=inputs, blocks=6)
    if kind == 2:
        return chance.chain(inputs=inputs)
    return chance.machine(4, inputs, 2)


def fan(many):
    """Behind two readings, of 6 inputs each, just so many standings can come."""
    told = [[((0,), 1 + r) for r in range(64)]]
    for i in range(64):
        told.append([((0,), 65 + min(i * 64 + r, many - 1)) for r in range(64)])
    told += [[((1,), 0)] * 64 for _ in range(many)]
    return Machine.of_rows(6, 1, told)


class TestPapers(Case):
    def test_by_chance(self):
        chance, met = Chance(451), {"paper": 0, "not": 0, "short": 0, "none": 0}
        for number in range(240):
            book = books(chance, number)
            inputs, many = len(book.inputs), chance.random.randint(1, 4)
            readings = chance.readings(inputs, many)
            output = chance.random.randrange(2)
            every = [(k, c) for k in range(inputs) for c in range(many)]
            wanted = book.run(readings)[-1][output]

            def paper(lot):
                return all(book.run(row)[-1][output] == wanted for row in agreeing(readings, lot))
            for lot in ([], every, sorted(chance.some(every, 0, 5)), sorted(chance.some(every, 0, 8))):
                told = paper(lot)
                self.told(told, is_paper, book, readings, output, [list(pair) for pair in lot])
                other = self.told(told_otherwise(book, readings, output, lot), told_otherwise, book, list(readings),
                                  output, tuple(lot))
                met["paper" if told else "not"] += 1
                if told:
                    self.assertIsNone(other)
                    continue
                self.assertTrue(is_tuples(other))
                self.assertEqual(len(other), many)
                self.assertTrue(all(len(row) == inputs for row in other))
                self.assertTrue(all(other[c][k] == readings[c][k] for k, c in lot))
                self.assertEqual(book.run(other)[-1][output], 1 - wanted)
            lean = list(every)
            for pair in every:
                less = [other for other in lean if other != pair]
                if paper(less):
                    lean = less
            self.told(tuple(lean), lean_paper, book, [list(row) for row in readings], output)
            for pair in lean:
                self.assertFalse(paper([other for other in lean if other != pair]))
            self.assertTrue(paper(lean))
            met["short"] += 0 < len(lean) < len(every)
            met["none"] += not lean
            # An input on which the output does not hang is in no lean paper.
            hangs = hanging(book)[output]
            self.assertTrue(all(k in hangs for k, _ in lean))
            k = forgetting(book)
            if k is not None:
                self.assertTrue(is_paper(book, readings, output, [pair for pair in every if pair[1] >= many - k - 1]))
        self.assertGreater(min(met.values()), 10, met)

    def test_what_if(self):
        chance, met = Chance(452), {"none": 0, "some": 0, "later": 0}
        for number in range(200):
            book = books(chance, number)
            inputs, many = len(book.inputs), chance.random.randint(1, 6)
            readings = chance.readings(inputs, many)
            for place, cycle in itertools.product(range(inputs), range(many)):
                other = [list(row) for row in readings]
                other[cycle][place] ^= 1
                told = [(c, o) for c, (a, b) in enumerate(zip(book.run(readings), book.run(other))) for o in range(2)
                        if a[o] != b[o]]
                self.told(told[0] if told else None, what_if, book, readings, place, cycle)
                met["some" if told else "none"] += 1
                met["later"] += bool(told) and told[0][0] > cycle
                if many <= 3:
                    every = [(k, c) for k in range(inputs) for c in range(many)]
                    papers = all(is_paper(book, readings[:c + 1], o, [pair for pair in every if pair[1] <= c and
                                                                      pair != (place, cycle)])
                                 for c in range(many) for o in range(2))
                    self.assertIs(papers, not told)
        self.assertGreater(min(met.values()), 10, met)

    def test_example(self):
        readings = ((1, 0), (0, 0), (0, 0))
        self.told(((0, 0), (1, 0), (1, 1), (1, 2)), lean_paper, LATCH, readings, 0)
        self.told((1, 0), what_if, LATCH, readings, 1, 1)
        self.told(None, what_if, LATCH, readings, 0, 2)
        self.told(True, is_paper, LATCH, readings, 0, lean_paper(LATCH, readings, 0))
        none = Machine.of_rows(0, 1, [[((1,), 0)]])
        self.told((), lean_paper, none, ((),) * 40, 0)
        self.told(True, is_paper, none, [()], 0, ())

    def test_sizes(self):
        chance = Chance(453)
        book = chance.rungs(rungs=24, inputs=8, outputs=6, cells=8, timers=0, counters=0)
        readings = chance.readings(8, 40)
        for output in (0, 5):
            try:
                lean = lean_paper(book, readings, output)
                self.assertTrue(is_paper(book, readings, output, lean))
                for pair in lean[:3]:
                    less = [other for other in lean if other != pair]
                    self.assertIsNotNone(told_otherwise(book, readings, output, less))
            except TooMany as error:
                self.assertEqual(error.limit, 2000)
        machine = chance.machine(500, 9, 6)
        readings = chance.readings(9, 40)
        lean = lean_paper(machine, readings, 3)
        self.assertTrue(is_paper(machine, readings, 3, lean))
        self.assertFalse(is_paper(machine, readings, 3, lean[1:]))
        ten = Beside(LATCH, Machine.of_rows(8, 1, [[((0,), 0)] * 256]))
        told = lean_paper(ten, [(1, 0) + (0,) * 8] + [(0,) * 10] * 39, 0)
        self.assertEqual(told, ((0, 0),) + tuple((1, c) for c in range(40)))
        # A row of cells that hand on what was read: as many standings as rows of so many bits.
        cells = tuple(f"c{k}" for k in range(8))
        shift = Rungs(("i",), ("x",), cells, tuple((("name", ahead), (("put", name),)) for ahead, name in reversed(
            list(zip(("i",) + cells, cells + ("x",))))))
        self.told(((0, 31),), lean_paper, shift, [(k % 2,) for k in range(40)], 0)

    def test_limit(self):
        zeros = [(0,) * 6] * 3
        every = [(k, c) for k in range(6) for c in range(3)]
        self.told(True, is_paper, fan(2000), zeros, 0, ())
        self.told(None, told_otherwise, fan(2000), zeros, 0, ())
        self.told((), lean_paper, fan(2000), zeros, 0)
        self.refused(TooMany, {"limit": 2000}, is_paper, fan(2001), zeros, 0, ())
        self.refused(TooMany, {"limit": 2000}, told_otherwise, fan(2001), zeros, 0, ())
        self.refused(TooMany, {"limit": 2000}, lean_paper, fan(2001), zeros, 0)
        # Standings behind the last cycle do not count, nor those to which the lot does not lead.
        self.told(True, is_paper, fan(2001), zeros[:2], 0, ())
        self.told((), lean_paper, fan(2001), zeros[:2], 0)
        self.told(True, is_paper, fan(2001), zeros, 0, every)
        self.refused(TooMany, {"limit": 2000}, is_paper, fan(2001), zeros, 0, [(0, 0)])
        self.told(True, is_paper, fan(2001), zeros, 0, [(0, 0), (1, 0)])
        self.told(None, what_if, fan(2001), zeros, 0, 0)

    def test_wrong_books_and_readings(self):
        wide = Machine.of_rows(11, 1, [[((0,), 0)] * 2048])
        calls = ((is_paper, (None, None)), (told_otherwise, (None, None)), (lean_paper, (None,)), (what_if, (None, None)))
        for call, more in calls:
            self.refused(TooMany, {"limit": 10}, call, wide, None, *more)
            for wrong in NO_ROWS + [(), []]:
                self.refused(BadRow, {"place": -1}, call, LATCH, wrong, *more)
            self.refused(TooMany, {"limit": 40}, call, LATCH, [None] * 41, *more)
            for wrong in NO_ROWS + [(), (0,), (0, 0, 0)]:
                self.refused(BadRow, {"place": -1}, call, LATCH, [(0, 0), wrong, (0, 2)], *more)
            for wrong in NO_BITS:
                self.refused(BadRow, {"place": 1}, call, LATCH, [(0, 0), [0, wrong], ()], *more)
        self.assertIs(is_paper(LATCH, [(0, 0)] * 40, 0, ()), False)

    def test_wrong_outputs_and_lots(self):
        readings = ((0, 0), (1, 0))
        for wrong in [1, -1] + NO_NUMBERS:
            for call, more in ((is_paper, (None,)), (told_otherwise, (None,)), (lean_paper, ())):
                self.refused(BadNumber, {"word": "output"}, call, LATCH, readings, wrong, *more)
        for call in (is_paper, told_otherwise):
            for wrong in (None, 3, "ab", {}, {(0, 0)}):
                self.refused(BadLot, {"place": -1}, call, LATCH, readings, 0, wrong)
            pairs = [None, 3, (), (0,), (0, 0, 0), "00", (2, 0), (0, 2), (-1, 0), (0, -1), (0, 0), [0, 0]]
            pairs += [(one, 1) for one in NO_NUMBERS] + [(1, one) for one in NO_NUMBERS]
            for wrong in pairs:
                self.refused(BadLot, {"place": 1}, call, LATCH, readings, 0, ((0, 0), wrong, None))
            self.refused(BadLot, {"place": 2}, call, LATCH, readings, 0, ([0, 1], (1, 0), (1, 0)))
            self.refused(BadLot, {"place": 0}, call, LATCH, readings, 0, [None, (0, 0)])

    def test_wrong_places(self):
        readings = ((0, 0), (1, 0))
        for wrong in [2, -1] + NO_NUMBERS:
            self.refused(BadNumber, {"word": "place"}, what_if, LATCH, readings, wrong, None)
            self.refused(BadNumber, {"word": "cycle"}, what_if, LATCH, readings, 0, wrong)


if __name__ == "__main__":
    unittest.main()
