"""[9], [10], [61], [66]: machines."""

import unittest

from guardrungs.books import Book
from guardrungs.errors import BadBook, BadMachine, BadNumber, BadRow, OtherShape, TooMany
from guardrungs.least import alike_machines, least
from guardrungs.machines import Machine, machine_of
from guardrungs.rungs import Rungs
from tests.checks import NO_BITS, NO_NAMES, NO_NUMBERS, NO_ROWS, Case, is_tuples
from tests.plain import Chance, rows

RISE = ((((0,), 0), ((1,), 1)), (((0,), 0), ((0,), 1)))
FLIP = ((((0,), 0), ((1,), 1)), (((1,), 1), ((0,), 0)))


def rise():
    return Machine.of_rows(1, 1, RISE)


def ring(many, inputs=0):
    """A machine that goes round through so many standings, whatever is read, and tells the first one."""
    return Machine.of_rows(inputs, 1, [[((1 if k == 0 else 0,), (k + 1) % many)] * (1 << inputs) for k in range(many)])


class TestMachines(Case):
    def test_example(self):
        machine = rise()
        self.told(((1,), (0,), (0,), (1,)), machine.run, [(1,), (1,), (0,), (1,)])
        self.told(((0,), 1), machine, 1, (1,))
        self.told(((0,), 0), machine, 1, [0])
        self.assertEqual(len(machine), 2)
        self.assertEqual((machine.inputs, machine.outputs, machine.rows), (("i0",), ("o0",), RISE))
        self.told((0,), machine.start)
        self.told(((1,), (1,)), machine.step, (0,), [1])
        self.assertTrue(issubclass(Machine, Book))

    def test_lists_do_as_well(self):
        rows_told = [[[list(answer), behind] for answer, behind in row] for row in RISE]
        machine = Machine(["a"], ["b"], rows_told)
        self.assertEqual((machine.inputs, machine.outputs, machine.rows), (("a",), ("b",), RISE))
        rows_told[0][0][0][0] = 1
        rows_told.clear()
        self.assertEqual(machine.rows, RISE)
        self.assertTrue(is_tuples(machine.rows))

    def test_equal(self):
        self.assertTrue(rise() == Machine(("p",), ("q",), RISE))
        self.assertFalse(rise() == Machine.of_rows(1, 1, FLIP))
        self.assertTrue(rise() != Machine.of_rows(1, 1, FLIP))
        self.assertFalse(Machine.of_rows(1, 0, [[((), 0)] * 2]) == Machine.of_rows(1, 1, [[((0,), 0)] * 2]))
        self.assertFalse(rise() == RISE)
        self.assertFalse(rise() == None)  # noqa: E711
        # The same rows with other numbers of inputs cannot be; with none of both it is one standing.
        self.assertTrue(Machine((), (), [[((), 0)]]) == Machine.of_rows(0, 0, [[((), 0)]]))

    def test_names_are_refused(self):
        for value in NO_NAMES:
            self.refused(BadBook, {"word": "name", "place": 1}, Machine, ["i", value], ["x"], None)
            self.refused(BadBook, {"word": "name", "place": 2}, Machine, ["i"], ["x", value], None)
        self.refused(BadBook, {"word": "name", "place": 1}, Machine, ["i"], ["i"], None)

    def test_rows_are_refused(self):
        for value in [None, 1, "ab", {0: 1}, (), []]:
            self.refused(BadMachine, {"standing": -1}, Machine, ("i",), ("x",), value)
        fine = [((0,), 0), ((1,), 1)]
        for wrong in [None, "ab", {}, (), fine[:1], fine + fine, [fine[0], None], [fine[0], ((0,),)], [fine[0], ((0,), 0, 0)],
                      [fine[0], "ab"], [fine[0], (None, 0)], [fine[0], ((), 0)], [fine[0], ((0, 0), 0)], [fine[0], ("0", 0)],
                      [fine[0], ((0,), 3)], [fine[0], ((0,), -1)]]:
            self.refused(BadMachine, {"standing": 1}, Machine, ("i",), ("x",), [fine, wrong, None])
        for value in NO_BITS:
            self.refused(BadMachine, {"standing": 0}, Machine, ("i",), ("x",), [[((value,), 0), ((0,), 0)], None])
        for value in NO_NUMBERS:
            self.refused(BadMachine, {"standing": 0}, Machine, ("i",), ("x",), [[((0,), 0), ((0,), value)]])
        self.refused(BadMachine, {"standing": 0}, Machine, (), ("x",), [[((0,), 1)]])

    def test_of_rows(self):
        machine = Machine.of_rows(2, 3, [[((0, 0, 1), 0)] * 4])
        self.assertEqual((machine.inputs, machine.outputs), (("i0", "i1"), ("o0", "o1", "o2")))
        for value in NO_NUMBERS + [-1]:
            self.refused(BadNumber, {"word": "many_inputs"}, Machine.of_rows, value, value, None)
            self.refused(BadNumber, {"word": "many_outputs"}, Machine.of_rows, 1, value, None)
        self.refused(BadMachine, {"standing": -1}, Machine.of_rows, 1, 1, None)
        self.refused(BadMachine, {"standing": 0}, Machine.of_rows, 1, 1, [[]])

    def test_calls_are_refused(self):
        for value in NO_NUMBERS + [-1, 2]:
            self.refused(BadNumber, {"word": "standing"}, rise(), value, None)
        for value in NO_ROWS + [(), (0, 0)]:
            self.refused(BadRow, {"place": -1}, rise(), 1, value)
            self.refused(BadRow, {"place": -1}, rise().step, (1,), value)
        for value in NO_BITS:
            self.refused(BadRow, {"place": 0}, rise(), 0, (value,))

    def test_runs_by_its_table(self):
        for number in range(60):
            chance = Chance(number)
            machine = chance.machine(6, 2, 2)
            readings = chance.readings(2, 20)
            standing, answers = 0, []
            for reading in readings:
                answer, standing = machine.rows[standing][2 * reading[0] + reading[1]]
                answers.append(answer)
            self.assertEqual(machine.run(readings), tuple(answers))
            self.assertEqual(machine.run_from((0,), readings)[1], (standing,))


class TestMachineOf(Case):
    def plainly(self, book):
        """The rows of the book's machine, step by step."""
        met, told = [book.start()], []
        for standing in met:
            row = []
            for reading in rows(len(book.inputs)):
                answer, behind = book.step(standing, reading)
                if behind not in met:
                    met.append(behind)
                row.append((answer, met.index(behind)))
            told.append(tuple(row))
        return tuple(told)

    def test_by_chance(self):
        for number in range(60):
            chance = Chance(number)
            for book in (chance.rungs(rungs=4, cells=1), chance.sheet(blocks=6), chance.chain(steps=3, transitions=3, actions=3),
                         chance.machine(6, 2, 1)):
                machine = machine_of(book)
                self.assertEqual((machine.inputs, machine.outputs), (book.inputs, book.outputs))
                self.assertEqual(machine.rows, self.plainly(book))
                readings = chance.readings(len(book.inputs), 20)
                self.assertEqual(machine.run(readings), book.run(readings))

    def test_ten_and_eleven_inputs(self):
        names = [f"i{k}" for k in range(11)]
        book = Rungs(names[:10], ("x",), (), [(("and", tuple(("name", name) for name in names[:10])), (("put", "x"),))])
        machine = machine_of(book)
        self.assertEqual((len(machine), len(machine.rows[0])), (2, 1024))
        self.assertEqual([pair for pair in machine.rows[0] if pair != ((0,), 0)], [((1,), 1)])
        self.assertEqual(machine.rows[0][-1], ((1,), 1))
        self.refused(TooMany, {"limit": 10}, machine_of, Rungs(names, (), (), ()))

    def test_two_thousand_standings(self):
        self.assertEqual(machine_of(ring(2000)), ring(2000))
        self.refused(TooMany, {"limit": 2000}, machine_of, ring(2001))
        # Standings that are not reached do not count.
        machine = Machine.of_rows(0, 0, [[((), 0)]] * 3000)
        self.assertEqual(len(machine_of(machine)), 1)

    def test_a_book_that_has_more_in_its_last_cycle(self):
        # 11 cells that count up: 2048 standings.
        cells = [f"c{k}" for k in range(11)]
        rungs, carry = [], ("bit", 1)
        for name in cells[::-1]:
            rungs.append((("and", (carry, ("name", name))), (("put", "r" + name),)))
            rungs.append((("or", (("and", (carry, ("not", ("name", name)))), ("and", (("not", carry), ("name", name))))), (("put", name),)))
            carry = ("name", "r" + name)
        book = Rungs((), (), cells + ["r" + name for name in cells], rungs)
        self.refused(TooMany, {"limit": 2000}, machine_of, book)


class TestTogether(Case):
    def test_example(self):
        both = rise() * Machine.of_rows(1, 1, FLIP)
        self.assertEqual((both.inputs, both.outputs), (("a.i0",), ("b.o0",)))
        self.told(((1,), (1,), (1,), (0,)), both.run, [(1,), (1,), (0,), (1,)])
        self.assertEqual(len(both), 4)

    def met(self, machine, other, work):
        """The rows of two machines together; work gives for a pair and a reading the answer and the next pair."""
        met, told = [(0, 0)], []
        for pair in met:
            row = []
            for answer, behind in work(pair):
                if behind not in met:
                    met.append(behind)
                row.append((answer, met.index(behind)))
            told.append(tuple(row))
        return tuple(told)

    def test_beside(self):
        for number in range(60):
            chance = Chance(number)
            machine, other = chance.machine(4, number % 3, 1), chance.machine(3, 1, 2)
            both = machine + other

            def work(pair):
                for answer, behind in machine.rows[pair[0]]:
                    for told, last in other.rows[pair[1]]:
                        yield answer + told, (behind, last)
            self.assertEqual(both.rows, self.met(machine, other, work))
            self.assertEqual(both.inputs, tuple(f"a.i{k}" for k in range(number % 3)) + ("b.i0",))
            self.assertEqual(both.outputs, ("a.o0", "b.o0", "b.o1"))
            readings = chance.readings(number % 3 + 1, 15)
            parts = zip(machine.run([row[:-1] for row in readings]), other.run([row[-1:] for row in readings]))
            self.assertEqual(both.run(readings), tuple(first + second for first, second in parts))
            self.assertEqual(least(both), least(least(machine) + least(other)))

    def test_in_a_row(self):
        for number in range(60):
            chance = Chance(number)
            machine, other = chance.machine(4, 1 + number % 2, 2), chance.machine(3, 2, 1)
            both = machine * other

            def work(pair):
                for answer, behind in machine.rows[pair[0]]:
                    told, last = other.rows[pair[1]][2 * answer[0] + answer[1]]
                    yield told, (behind, last)
            self.assertEqual(both.rows, self.met(machine, other, work))
            readings = chance.readings(1 + number % 2, 15)
            self.assertEqual(both.run(readings), other.run(machine.run(readings)))
            self.assertEqual(least(both), least(least(machine) * least(other)))

    def test_nothing_is_changed(self):
        machine, other = rise(), Machine.of_rows(1, 1, FLIP)
        both = machine + other
        self.assertEqual((machine.rows, other.rows), (RISE, FLIP))
        self.assertEqual((machine.inputs, other.outputs), (("i0",), ("o0",)))
        self.assertTrue(alike_machines(both, machine + other))

    def test_limits(self):
        none = Machine.of_rows(5, 0, [[((), 0)] * 32])
        more = Machine.of_rows(6, 0, [[((), 0)] * 64])
        self.assertEqual(len((none + none).inputs), 10)
        for first, second in [(none, more), (more, none)]:
            with self.assertRaises(TooMany) as raised:
                first + second
            self.assertEqual(raised.exception.limit, 10)
        self.assertEqual(len(ring(40) + ring(49)), 1960)
        self.assertEqual(len(ring(2000) + ring(1)), 2000)
        self.assertEqual(len(ring(2000) + ring(5)), 2000)
        with self.assertRaises(TooMany) as raised:
            ring(29) + ring(69)
        self.assertEqual(raised.exception.limit, 2000)
        with self.assertRaises(TooMany) as raised:
            ring(1000) + ring(2001)
        self.assertEqual(raised.exception.limit, 2000)

    def test_limits_in_a_row(self):
        wide = Machine.of_rows(11, 1, [[((0,), 0)] * 2048])
        two = Machine.of_rows(2, 1, [[((0,), 0)] * 4])
        with self.assertRaises(OtherShape):
            wide * two
        with self.assertRaises(OtherShape):
            rise() * two
        with self.assertRaises(TooMany) as raised:
            wide * rise()
        self.assertEqual(raised.exception.limit, 10)
        self.assertEqual(len(rise() * Machine.of_rows(1, 0, [[((), 0)] * 2])), 2)
        self.assertEqual(len(Machine.of_rows(10, 1, [[((0,), 0)] * 1024]) * rise()), 1)
        self.assertEqual(len(ring(40) * ring(49, 1)), 1960)
        with self.assertRaises(TooMany) as raised:
            ring(29) * ring(69, 1)
        self.assertEqual(raised.exception.limit, 2000)
        # The second one may read as much as the first one tells.
        tell = Machine.of_rows(0, 11, [[((0,) * 11, 0)]])
        self.assertEqual(len(tell * Machine.of_rows(11, 0, [[((), 0)] * 2048])), 1)


if __name__ == "__main__":
    unittest.main()
