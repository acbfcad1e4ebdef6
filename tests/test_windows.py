"""What timers tell, least machines of timers and counters, and timers made of cells."""

import itertools
import unittest

from guardrungs.alike import alike
from guardrungs.errors import BadNumber, BadRow
from guardrungs.least import least
from guardrungs.machines import Machine, machine_of
from guardrungs.rungs import Rungs
from guardrungs.sheets import Sheet
from guardrungs.timercells import timer_sheet, untimed
from guardrungs.windows import counter_bits, counter_machine, delayed, timer_bits, timer_machine
from tests.checks import NO_BITS, NO_NUMBERS, NO_ROWS, Case
from tests.plain import Chance

TIMERS = [(kind, number) for kind in ("on", "off", "pulse") for number in range(1 if kind == "pulse" else 0, 17)]


def plain_timer(kind, number, bits):
    """By the words of [76]."""
    told, lasts = [], []
    for at, bit in enumerate(bits):
        window = [bits[k] if k >= 0 else 0 for k in range(at - number, at + 1)]
        if kind == "on":
            told.append(1 if 0 not in window else 0)
        elif kind == "off":
            told.append(1 if 1 in window else 0)
        else:
            ahead = bits[at - 1] if at > 0 else 0
            if bit == 1 and ahead == 0 and at not in lasts:
                lasts.extend(range(at, at + number))
            told.append(1 if at in lasts else 0)
    return tuple(told)


def plain_counter(number, bits, clears):
    told = []
    for at in range(len(bits)):
        cleared = max([k for k in range(at + 1) if clears[k] == 1], default=-1)
        rises = [k for k in range(cleared + 1, at + 1) if bits[k] == 1 and (k == 0 or bits[k - 1] == 0)]
        told.append(1 if len(rises) >= number else 0)
    return tuple(told)


class TestBits(Case):
    def test_all_short_rows(self):
        for kind, number in TIMERS[:4] + TIMERS[17:20] + TIMERS[34:38]:
            for length in range(9):
                for bits in itertools.product((0, 1), repeat=length):
                    self.assertEqual(timer_bits(kind, number, bits), plain_timer(kind, number, bits))

    def test_long_rows(self):
        chance = Chance(21)
        for kind, number in TIMERS:
            for times in range(4):
                bits = [row[0] for row in chance.readings(1, 200)]
                if times > 1:
                    bits = [1 if chance.random.random() < 0.93 else 0 for _ in range(200)]
                if times == 3:
                    bits = [1 - bit for bit in bits]
                self.told(plain_timer(kind, number, bits), timer_bits, kind, number, bits)

    def test_counters(self):
        chance = Chance(22)
        for number in range(1, 17):
            for _ in range(4):
                bits = [row[0] for row in chance.readings(1, 200)]
                clears = [1 if chance.random.random() < 0.03 else 0 for _ in range(200)]
                self.told(plain_counter(number, bits, clears), counter_bits, number, bits, clears)
        for bits in itertools.product((0, 1), repeat=5):
            for clears in itertools.product((0, 1), repeat=5):
                self.assertEqual(counter_bits(2, bits, clears), plain_counter(2, bits, clears))
        self.told((), counter_bits, 1, (), ())

    def test_they_tell_what_books_tell(self):
        chance = Chance(23)
        for kind, number in TIMERS:
            book = Rungs(("i",), ("x",), (), ((("name", "i"), (("feed", "t"),)), (("name", "t"), (("put", "x"),))),
                         timers=(("t", kind, number),))
            readings = chance.readings(1, 60)
            self.assertEqual(tuple(answer[0] for answer in book.run(readings)),
                             timer_bits(kind, number, [row[0] for row in readings]))

    def test_wrong(self):
        for wrong in ["On", "", None, 0, ["on"], "count"]:
            self.refused(BadNumber, {"word": "kind"}, timer_bits, wrong, 99, None)
            self.refused(BadNumber, {"word": "kind"}, timer_machine, wrong, 99)
            self.refused(BadNumber, {"word": "kind"}, timer_sheet, wrong, 99)
        for kind in ("on", "off", "pulse"):
            for wrong in NO_NUMBERS + [-1, 17] + ([0] if kind == "pulse" else []):
                self.refused(BadNumber, {"word": "number"}, timer_bits, kind, wrong, None)
                self.refused(BadNumber, {"word": "number"}, timer_machine, kind, wrong)
                self.refused(BadNumber, {"word": "number"}, timer_sheet, kind, wrong)
        for wrong in NO_NUMBERS + [0, 17, -1]:
            self.refused(BadNumber, {"word": "number"}, counter_bits, wrong, None, None)
            self.refused(BadNumber, {"word": "number"}, counter_machine, wrong)
        for wrong in NO_ROWS:
            self.refused(BadRow, {"place": -1}, timer_bits, "on", 1, wrong)
            self.refused(BadRow, {"place": -1}, counter_bits, 1, wrong, None)
            self.refused(BadRow, {"place": -1}, counter_bits, 1, (0, 1), wrong)
        for wrong in NO_BITS:
            self.refused(BadRow, {"place": 1}, timer_bits, "on", 1, (0, wrong, wrong))
            self.refused(BadRow, {"place": 2}, counter_bits, 1, (0, 1, wrong), (0, wrong))
            self.refused(BadRow, {"place": 0}, counter_bits, 1, (0, 1), (wrong, 0))
        self.refused(BadRow, {"place": -1}, counter_bits, 1, (0, 1), (0,))
        self.refused(BadRow, {"place": -1}, counter_bits, 1, (0, 1), (0, 1, 1))


class TestDelayed(Case):
    def test_delayed(self):
        self.told((0, 0, 1, 1), delayed, [1, 1, 0, 1], 2)
        self.told((1, 1, 0, 1), delayed, (1, 1, 0, 1), 0)
        self.told((0, 0, 0, 0), delayed, (1, 1, 0, 1), 4)
        self.told((0, 0, 0, 0), delayed, (1, 1, 0, 1), 10 ** 12)
        self.told((), delayed, (), 3)

    def test_wrong(self):
        for wrong in NO_ROWS:
            self.refused(BadRow, {"place": -1}, delayed, wrong, -1)
        self.refused(BadRow, {"place": 1}, delayed, (0, 2), -1)
        for wrong in NO_NUMBERS + [-1]:
            self.refused(BadNumber, {"word": "d"}, delayed, (0, 1), wrong)


class TestMachines(Case):
    def test_as_many_standings_as_told(self):
        chance = Chance(24)
        for kind, number in TIMERS:
            machine = timer_machine(kind, number)
            self.assertIs(type(machine), Machine)
            self.assertEqual((machine.inputs, machine.outputs, len(machine)), (("feed",), ("out",), number + 1))
            self.assertTrue(least(machine) == machine)
            readings = chance.readings(1, 80)
            wanted = plain_timer(kind, number, [row[0] for row in readings])
            self.assertEqual(machine.run(readings), tuple((bit,) for bit in wanted))
        for number in range(1, 17):
            machine = counter_machine(number)
            self.assertEqual((machine.inputs, machine.outputs), (("feed", "clear"), ("out",)))
            self.assertEqual(len(machine), 2 * number + 1)
            self.assertTrue(least(machine) == machine)
            readings = [(chance.reading(1)[0], 1 if chance.random.random() < 0.05 else 0) for _ in range(150)]
            wanted = plain_counter(number, *zip(*readings))
            self.assertEqual(machine.run(readings), tuple((bit,) for bit in wanted))


class TestCells(Case):
    def test_timer_sheets(self):
        for kind, number in TIMERS:
            sheet = timer_sheet(kind, number)
            self.assertIs(type(sheet), Sheet)
            self.assertEqual((sheet.inputs, sheet.outputs), (("v",), ("q",)))
            self.assertEqual(sheet.kept, min(k for k in range(9) if 2 ** k >= number + 1))
            self.assertEqual({block[1] for block in sheet.blocks} & {"on", "off", "pulse", "count"}, set())
            self.assertTrue(least(machine_of(sheet)) == timer_machine(kind, number))

    def check(self, sheet):
        told = untimed(sheet)
        self.assertIs(type(told), Sheet)
        self.assertEqual((told.inputs, told.outputs), (sheet.inputs, sheet.outputs))
        most = sheet.kept
        for _, kind, _, number in sheet.blocks:
            if kind in ("on", "off", "pulse"):
                most += min(k for k in range(9) if 2 ** k >= number + 1)
            elif kind == "count":
                most += min(k for k in range(9) if 2 ** k >= 2 * number + 1)
        self.assertLessEqual(told.kept, most)
        self.assertEqual({block[1] for block in told.blocks} & {"on", "off", "pulse", "count"}, set())
        return told

    def test_untimed_by_chance(self):
        chance = Chance(25)
        for _ in range(60):
            sheet = chance.sheet(blocks=9)
            readings = chance.readings(2, 50)
            told = self.check(sheet)
            self.assertEqual(told.run(readings), sheet.run(readings))
            answers, middle = told.run_from(told.start(), readings[:20])
            self.assertEqual(answers + told.run_from(middle, readings[20:])[0], sheet.run(readings))

    def test_each_timer_and_counter(self):
        for kind, number in TIMERS:
            sheet = Sheet(("i",), (("z0", kind, ("i",), number),), (("z1", "z0"), ("x", "i")))
            self.assertTrue(alike(self.check(sheet), sheet))
        for number in range(1, 17):
            sheet = Sheet(("i", "c"), (("w", "count", ("i", "c"), number), ("n", "not", ("w",), 0)), (("x", "n"),))
            self.assertTrue(alike(self.check(sheet), sheet))
        one = Sheet(("i",), (("w", "count", ("i", "i"), 2),), (("x", "w"),))
        self.assertTrue(alike(self.check(one), one))

    def test_in_rows_and_in_rings_over_cells(self):
        sheet = Sheet(("i",), (("a", "on", ("d",), 1), ("b", "off", ("a",), 2), ("c", "cell", ("b",), 0),
                               ("d", "odd", ("i", "c"), 0), ("u", "count", ("b", "a"), 2)), (("x", "b"), ("y", "u")))
        self.assertTrue(alike(self.check(sheet), sheet))

    def test_without_timers_it_stays(self):
        sheet = Sheet(("i",), (("a", "hold", ("i", "b"), 0), ("b", "cell", ("a",), 0)), (("x", "b"),))
        told = untimed(sheet)
        self.assertEqual((told.blocks, told.wiring), (sheet.blocks, sheet.wiring))


if __name__ == "__main__":
    unittest.main()
