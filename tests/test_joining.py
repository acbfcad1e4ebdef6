"""Books beside one another, in a row, and bent."""

import unittest

from guardrungs.errors import BadNumber, BadRow, OtherShape, TooMany
from guardrungs.joining import Beside, Bent, InRow
from guardrungs.least import least
from guardrungs.machines import Machine, machine_of
from guardrungs.rungs import Rungs
from tests.checks import NO_BITS, NO_NUMBERS, NO_ROWS, Case, is_tuples
from tests.plain import Chance, rows

TURN = Machine(("i",), ("x",), ((((1,), 0), ((0,), 0)),))


def some_books(chance):
    """A book of each kind, with two inputs and two outputs."""
    books = [chance.rungs(rungs=4, cells=1), chance.sheet(blocks=5), chance.chain(steps=3, actions=3)]
    return books + [chance.machine(3, 2, 2)]


def all_kinds(chance):
    books = some_books(chance)
    books.append(Bent(books[0], (1, 0)))
    books.append(InRow(books[1], books[3]))
    return books


class TestBeside(Case):
    def test_names(self):
        book = Beside(Machine(("i", "j"), ("x",), [[((0,), 0)] * 4]), TURN)
        self.assertEqual((book.inputs, book.outputs), (("a.i", "a.j", "b.i"), ("a.x", "b.x")))
        twice = Beside(book, TURN)
        self.assertEqual(twice.inputs, ("a.a.i", "a.a.j", "a.b.i", "b.i"))

    def test_each_part_reads_its_own_inputs(self):
        chance = Chance(11)
        for first in all_kinds(chance):
            for second in all_kinds(chance):
                book = Beside(first, second)
                readings = chance.readings(4, 20)
                wanted = first.run([row[:2] for row in readings]), second.run([row[2:] for row in readings])
                self.told(tuple(a + b for a, b in zip(*wanted)), book.run, list(readings))

    def test_standing_and_cut(self):
        chance = Chance(12)
        for first in all_kinds(chance):
            second = chance.pick(all_kinds(chance))
            book = Beside(first, second)
            start = (len(first.start()),) + first.start() + second.start()
            self.assertEqual(book.start(), start)
            readings = chance.readings(4, 16)
            whole, end = book.run_from(book.start(), readings)
            one, middle = book.run_from(book.start(), readings[:7])
            two, last = book.run_from(middle, readings[7:])
            self.assertEqual((one + two, last), (whole, end))
            ends = [part.run_from(part.start(), [row[at:at + 2] for row in readings])[1]
                    for part, at in ((first, 0), (second, 2))]
            self.assertEqual(end, (len(ends[0]),) + ends[0] + ends[1])
            self.assertTrue(is_tuples(end))
            answer, behind = book.step(list(middle), list(readings[7]))
            self.assertEqual((answer,), two[:1])
            self.assertTrue(is_tuples(behind))

    def test_all_readings_at_once_are_as_one_by_one(self):
        chance = Chance(13)
        for first in all_kinds(chance):
            for book in (Beside(first, chance.pick(all_kinds(chance))), InRow(first, chance.machine(4, 2, 1)),
                         Bent(first, (2, 0))):
                _, standing = book.run_from(book.start(), chance.readings(len(book.inputs), 5))
                each = [book.step(standing, row) for row in rows(len(book.inputs))]
                self.assertEqual(book.step_each(standing), each)

    def test_machines(self):
        chance = Chance(14)
        for _ in range(12):
            first, second = chance.pick(all_kinds(chance)), chance.pick(some_books(chance))
            try:
                one, two = machine_of(first), machine_of(second)
                whole = machine_of(Beside(first, second))
            except TooMany:
                continue
            self.assertTrue(whole == one + two)
            self.assertEqual((whole.inputs, whole.outputs), ((one + two).inputs, (one + two).outputs))
            self.assertTrue(least(whole) == least(least(one) + least(two)))
            row = machine_of(InRow(first, second))
            self.assertTrue(row == one * two)
            self.assertEqual((row.inputs, row.outputs), ((one * two).inputs, (one * two).outputs))
            self.assertTrue(least(row) == least(least(one) * least(two)))

    def test_books_without_inputs_or_outputs(self):
        clock = Rungs((), ("x",), (), ((("not", ("name", "x")), (("put", "x"),)),))
        none = Machine((), (), ((((), 0),),))
        self.assertEqual(Beside(clock, none).run([(), ()]), ((1,), (0,)))
        self.assertEqual(Beside(none, none).run([()]), ((),))
        self.assertEqual(InRow(clock, TURN).run([(), (), ()]), ((0,), (1,), (0,)))
        self.assertEqual(InRow(none, clock).run([(), ()]), ((1,), (0,)))

    def test_wrong_readings(self):
        book = Beside(TURN, TURN)
        for wrong in NO_ROWS + [(0,), (0, 1, 0), ()]:
            self.refused(BadRow, {"place": -1}, book.step, book.start(), wrong)
            self.refused(BadRow, {"place": -1}, Bent(TURN, (1,)).step, (0,), wrong)
        for wrong in NO_ROWS + [(0, 0), ()]:
            self.refused(BadRow, {"place": -1}, InRow(TURN, TURN).step, book.start(), wrong)
        for wrong in NO_BITS:
            self.refused(BadRow, {"place": 1}, book.run, [(0, 0), (0, wrong)])
            self.refused(BadRow, {"place": 0}, Bent(TURN, (1,)).run, [(0, 1), (wrong, 1)])
            self.refused(BadRow, {"place": 0}, InRow(TURN, TURN).run, [(0,), (wrong,)])


class TestInRow(Case):
    def test_the_second_reads_the_first_in_the_same_cycle(self):
        chance = Chance(15)
        for first in all_kinds(chance):
            for second in all_kinds(chance):
                book = InRow(first, second)
                self.assertEqual(book.inputs, tuple("a." + name for name in first.inputs))
                self.assertEqual(book.outputs, tuple("b." + name for name in second.outputs))
                readings = chance.readings(2, 20)
                self.told(second.run(first.run(readings)), book.run, readings)
                self.assertEqual(book.start(), (len(first.start()),) + first.start() + second.start())
                one, middle = book.run_from(book.start(), readings[:9])
                self.assertEqual(one + book.run_from(middle, readings[9:])[0], book.run(readings))

    def test_other_shape(self):
        chance = Chance(16)
        for outputs, inputs in ((1, 2), (2, 1), (0, 1), (1, 0)):
            self.refused(OtherShape, {}, InRow, chance.machine(2, 1, outputs), chance.machine(2, inputs, 1))

    def test_too_many_inputs_are_no_matter_but_for_machines(self):
        wide = Machine(tuple(f"i{k}" for k in range(6)), ("x",), [[((0,), 0)] * 64])
        both = Beside(wide, wide)
        self.assertEqual(both.run([(0,) * 12]), ((0, 0),))
        self.refused(TooMany, {"limit": 10}, machine_of, both)


class TestBent(Case):
    def test_bent(self):
        chance = Chance(17)
        for book in all_kinds(chance):
            for wires in ((0, 1), (1, 0), (1, 1), (0, 0), (3, 1), [11, 4]):
                bent = Bent(book, wires)
                self.assertEqual(bent.inputs, tuple(f"n{k}" for k in range(max(wires) + 1)))
                self.assertEqual(bent.outputs, tuple("a." + name for name in book.outputs))
                self.assertEqual(bent.start(), book.start())
                readings = chance.readings(max(wires) + 1, 15)
                handed = [tuple(row[place] for place in wires) for row in readings]
                self.told(book.run(handed), bent.run, readings)
                self.assertEqual(bent.run_from(bent.start(), readings)[1], book.run_from(book.start(), handed)[1])

    def test_wires_are_kept_as_a_copy(self):
        wires = [1, 0]
        book = Machine.of_rows(2, 1, [[((0,), 0), ((1,), 0), ((0,), 0), ((0,), 0)]])
        bent = Bent(book, wires)
        wires[0] = 0
        self.assertEqual(bent.run([(1, 0)]), ((1,),))

    def test_no_wires(self):
        clock = Rungs((), ("x",), (), ((("not", ("name", "x")), (("put", "x"),)),))
        bent = Bent(clock, ())
        self.assertEqual((bent.inputs, bent.outputs, bent.run([(), ()])), ((), ("a.x",), ((1,), (0,))))
        self.assertEqual(Bent(clock, []).inputs, ())

    def test_wrong_wires(self):
        book = Machine.of_rows(2, 0, [[((), 0)] * 4])
        for wrong in [(0,), (0, 1, 2), (), (0, 12), (-1, 0), None, "01", {0: 0, 1: 1}, 3, (0, None)]:
            self.refused(BadNumber, {"word": "wires"}, Bent, book, wrong)
        for wrong in NO_NUMBERS:
            self.refused(BadNumber, {"word": "wires"}, Bent, book, (0, wrong))


if __name__ == "__main__":
    unittest.main()
