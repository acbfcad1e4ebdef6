"""Books that are alike, and what outputs hang on."""

import itertools
import unittest

from guardrungs.alike import alike, pairs_met, unlike_row
from guardrungs.errors import BadNumber, BadRow, OtherShape, TooMany
from guardrungs.forgets import forgetting, healing, recent, remembered, unhealed
from guardrungs.hangs import Stuck, hanging, hangs, two_rows
from guardrungs.joining import Beside, Bent
from guardrungs.least import least
from guardrungs.machines import Machine, machine_of
from guardrungs.needless import needless_parts, trimmed
from guardrungs.rungs import Rungs
from guardrungs.unwired import rungs_of_sheet
from guardrungs.versions import sheet_of_rungs
from tests.checks import NO_BITS, NO_NUMBERS, NO_ROWS, Case, is_tuples
from tests.plain import Chance, rows

WIDE = Rungs(tuple(f"i{k}" for k in range(11)), ("x",), (), ())
BIG = Rungs(tuple(f"i{k}" for k in range(10)), ("x",), tuple(f"c{k}" for k in range(11)),
            [(("name", f"i{k}"), (("put", f"c{k}"),)) for k in range(10)] + [(("rise", "i0"), (("put", "c10"),)),
                                                                            (("fall", "i1"), (("put", "x"),))])


def plain_unlike(book, other, length):
    for many in range(1, length + 1):
        for readings in itertools.product(rows(len(book.inputs)), repeat=many):
            if book.run(readings)[-1] != other.run(readings)[-1]:
                return readings
    return None


def plain_pairs(m, n):
    met, left = {(0, 0)}, [(0, 0)]
    while left:
        s, t = left.pop()
        for (_, a), (_, b) in zip(m.rows[s], n.rows[t]):
            if (a, b) not in met:
                met.add((a, b))
                left.append((a, b))
    return len(met)


class TestAlike(Case):
    def check(self, book, other, length):
        wanted = plain_unlike(book, other, length)
        told = unlike_row(book, other)
        self.assertIs(alike(book, other), told is None)
        if wanted is not None:
            self.told(wanted, unlike_row, book, other)
            self.assertIsNone(pairs_met(book, other))
        elif told is None:
            self.told(plain_pairs(machine_of(book), machine_of(other)), pairs_met, book, other)
        else:
            self.assertGreater(len(told), length)
            self.assertTrue(is_tuples(told))
            self.assertNotEqual(book.run(told)[-1], other.run(told)[-1])
        if told is not None:
            self.assertEqual(book.run(told)[:-1], other.run(told)[:-1])
            self.assertLessEqual(len(told), len(machine_of(book)) + len(machine_of(other)) - 1)
        self.assertIs(alike(book, other), least(machine_of(book)) == least(machine_of(other)))
        return None if told is None else len(told)

    def test_machines_by_chance(self):
        chance = Chance(51)
        met = {}
        for _ in range(700):
            inputs = chance.random.randint(0, 2)
            length = {0: 8, 1: 7, 2: 4}[inputs]
            many = chance.random.randint(1, 2)
            books = [chance.machine(chance.random.randint(1, 5), inputs, many) for _ in range(2)]
            told = self.check(*books, length)
            met[told] = met.get(told, 0) + 1
        self.assertGreater(met[None], 20)
        self.assertGreater(len(met), 3)

    def test_books_of_all_kinds(self):
        chance = Chance(52)
        for _ in range(30):
            book = chance.rungs(rungs=3, inputs=1, outputs=1, cells=1, timers=1, counters=0, deep=2)
            sheet = sheet_of_rungs(book)
            self.check(book, sheet, 5)
            self.check(rungs_of_sheet(sheet), machine_of(book), 5)
            self.check(book, chance.rungs(rungs=3, inputs=1, outputs=1, cells=1, timers=0, counters=0, deep=2), 5)
            self.check(chance.chain(inputs=1, outputs=1), book, 5)

    def test_last_moment(self):
        # Two lines of standings of which the last answers alone differ: as long as a telling row can be.
        def line(many, last):
            told = [[((0,), s), ((0,), min(s + 1, many - 1))] for s in range(many)]
            told[-1] = [((last,), many - 1), ((last,), many - 1)]
            return Machine.of_rows(1, 1, told)
        self.told(((1,),) * 4 + ((0,),), unlike_row, line(5, 1), line(7, 1))
        self.told(((1,),) * 4 + ((0,),), unlike_row, line(5, 1), line(5, 0))
        self.told(7, pairs_met, line(7, 0), line(5, 0))

    def test_pairs_of_rings(self):
        def ring(many):
            return Machine.of_rows(0, 1, [[((0,), (s + 1) % many)] for s in range(many)])
        self.told(12, pairs_met, ring(4), ring(3))
        self.told(4, pairs_met, ring(4), ring(2))
        self.told(1, pairs_met, ring(1), ring(1))

    def test_wrong(self):
        small = Machine.of_rows(1, 1, [[((0,), 0)] * 2])
        for call in (alike, unlike_row, pairs_met):
            for other in (Machine.of_rows(1, 2, [[((0, 0), 0)] * 2]), Machine.of_rows(2, 1, [[((0,), 0)] * 4])):
                self.refused(OtherShape, {}, call, small, other)
                self.refused(OtherShape, {}, call, other, small)
            self.refused(TooMany, {"limit": 10}, call, WIDE, small)
            self.refused(TooMany, {"limit": 10}, call, small, WIDE)
            self.refused(TooMany, {"limit": 10}, call, WIDE, WIDE)
            self.refused(OtherShape, {}, call, BIG, small)
            self.refused(TooMany, {"limit": 2000}, call, BIG, BIG)


class TestTenInputs(Case):
    def test_ten_inputs_are_answered(self):
        ins = tuple(f"i{k}" for k in range(10))
        book = Rungs(ins, ("x",), (), ((("rise", "i9"), (("put", "x"),)), (("name", "i3"), (("set", "x"),))))
        other = Rungs(ins, ("x",), (), ((("rise", "i9"), (("put", "x"),)),))
        self.told(True, alike, book, sheet_of_rungs(book))
        self.told(((0, 0, 0, 1) + (0,) * 6,), unlike_row, book, other)
        self.told(4, pairs_met, book, book)
        self.told(((3, 9),), hanging, book)
        self.told(((9,),), hanging, other)
        self.told(1, forgetting, book)
        self.told(1, healing, other)
        self.told(None, unhealed, book, 1)
        self.assertEqual(len(remembered(book, 0)), 2)
        self.told((1,), recent, book, [(1,) * 10], 0)
        self.told((), needless_parts, book)
        self.assertEqual(trimmed(book).rungs, book.rungs)


class TestStuck(Case):
    def test_stuck(self):
        chance = Chance(53)
        for book in (chance.rungs(), chance.sheet(), chance.chain(), chance.machine(4, 2, 2)):
            for place in (0, 1):
                for bit in (0, 1):
                    stuck = Stuck(book, place, bit)
                    self.assertEqual((stuck.inputs, stuck.outputs), (book.inputs, book.outputs))
                    self.assertEqual(stuck.start(), book.start())
                    readings = chance.readings(2, 20)
                    handed = [row[:place] + (bit,) + row[place + 1:] for row in readings]
                    self.told(book.run(handed), stuck.run, [list(row) for row in readings])
                    self.assertEqual(stuck.run_from(stuck.start(), readings)[1], book.run_from(book.start(), handed)[1])
                    self.assertEqual(stuck.step_each(stuck.start()),
                                     [stuck.step(stuck.start(), row) for row in rows(2)])

    def test_wrong(self):
        book = Chance(54).rungs()
        for wrong in NO_NUMBERS + [-1, 2]:
            self.refused(BadNumber, {"word": "place"}, Stuck, book, wrong, 7)
        for wrong in NO_BITS:
            self.refused(BadNumber, {"word": "bit"}, Stuck, book, 0, wrong)
        for wrong in NO_ROWS + [(0,), (0, 1, 1)]:
            self.refused(BadRow, {"place": -1}, Stuck(book, 0, 0).step, book.start(), wrong)
        for wrong in NO_BITS:
            # The bit that is not handed on is looked at, too.
            self.refused(BadRow, {"place": 0}, Stuck(book, 0, 0).step, book.start(), (wrong, 0))
            self.refused(BadRow, {"place": 1}, Stuck(book, 0, 0).run, [(0, 0), (0, wrong)])
        self.refused(BadNumber, {"word": "place"}, Stuck, Rungs((), (), (), ()), 0, 0)


class TestHanging(Case):
    def plain(self, book, output, place, length):
        """The least length of twins whose last answers differ at the output, up to this length."""
        for many in range(1, length + 1):
            for readings in itertools.product(rows(len(book.inputs)), repeat=many):
                for bits in itertools.product((0, 1), repeat=many):
                    other = [row[:place] + (bit,) + row[place + 1:] for row, bit in zip(readings, bits)]
                    if book.run(readings)[-1][output] != book.run(other)[-1][output]:
                        return many
        return None

    def check(self, book, output, place, length):
        told = two_rows(book, output, place)
        self.assertIs(hangs(book, output, place), told is not None)
        self.assertIs(place in hanging(book)[output], told is not None)
        wanted = self.plain(book, output, place, length)
        if told is None:
            self.assertIsNone(wanted)
            return None
        row, other = told
        self.assertTrue(is_tuples(told))
        self.assertEqual(len(row), len(other))
        if wanted is None:
            self.assertGreater(len(row), length)
        else:
            self.assertEqual(len(row), wanted)
        for one, two in zip(row, other):
            self.assertEqual(one[:place] + one[place + 1:], two[:place] + two[place + 1:])
        self.assertNotEqual(book.run(row)[-1][output], book.run(other)[-1][output])
        return len(row)

    def test_by_chance(self):
        chance = Chance(55)
        met = {}
        for _ in range(250):
            inputs = chance.random.randint(1, 2)
            book = chance.machine(chance.random.randint(1, 5), inputs, 2)
            for output in (0, 1):
                told = self.check(book, output, chance.random.randrange(inputs), {1: 5, 2: 3}[inputs])
                met[told] = met.get(told, 0) + 1
        self.assertGreater(met[None], 40)
        self.assertGreater(len(met), 3)

    def test_books(self):
        chance = Chance(56)
        for _ in range(25):
            book = chance.rungs(rungs=3, inputs=2, cells=1, timers=1, counters=0, deep=2)
            for place in (0, 1):
                self.check(book, 1, place, 2)
                whole = [place in told for told in hanging(book)]
                self.assertIs(any(whole), not alike(book, Stuck(book, place, 0)))
                self.assertIs(any(whole), not alike(book, Stuck(book, place, 1)))

    def test_deep(self):
        # The input is heard only behind five other readings.
        told = [[((0,), s), ((0,), s), ((0,), s + 1), ((0,), s + 1)] for s in range(4)]
        told.append([((0,), 4), ((1,), 4), ((0,), 4), ((0,), 4)])
        book = Machine.of_rows(2, 1, told)
        self.assertEqual(self.check(book, 0, 1, 3), 5)
        self.assertEqual(self.check(book, 0, 0, 3), 5)
        self.assertEqual(hanging(book), ((0, 1),))

    def test_edges(self):
        none = Rungs(("a", "b"), (), (), ())
        self.told((), hanging, none)
        clock = Rungs((), ("x", "y"), (), ((("not", ("name", "x")), (("put", "x"),)),))
        self.told(((), ()), hanging, clock)
        # A standing that hangs on an input matters only if an answer does.
        kept = Rungs(("a",), ("x",), ("c",), ((("name", "a"), (("put", "c"),)), (("rise", "a"), ())))
        self.told(((),), hanging, kept)
        self.told(None, two_rows, kept, 0, 0)
        self.told(False, hangs, kept, 0, 0)
        both = Beside(clock, Bent(kept, (0,)))
        self.told(((), (), ()), hanging, both)

    def test_wrong(self):
        book = Chance(57).rungs()
        for call in (hangs, two_rows):
            for wrong in NO_NUMBERS + [-1, 2]:
                self.refused(BadNumber, {"word": "output"}, call, book, wrong, -1)
                self.refused(BadNumber, {"word": "place"}, call, book, 0, wrong)
            self.refused(TooMany, {"limit": 10}, call, WIDE, -1, -1)
            self.refused(BadNumber, {"word": "output"}, call, BIG, 1, -1)
            self.refused(BadNumber, {"word": "place"}, call, BIG, 0, 10)
            self.refused(TooMany, {"limit": 2000}, call, BIG, 0, 9)
        self.refused(TooMany, {"limit": 10}, hanging, WIDE)
        self.refused(TooMany, {"limit": 2000}, hanging, BIG)


if __name__ == "__main__":
    unittest.main()
