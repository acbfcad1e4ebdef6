"""[62] to [64]: alike standings, least machines, rounds."""

import itertools
import unittest

from guardrungs.errors import BadNumber, OtherShape
from guardrungs.least import alike_machines, classes, least, rounds, told_apart
from guardrungs.machines import Machine, machine_of
from tests.checks import NO_NUMBERS, Case, is_tuples
from tests.plain import Chance, rows


def plain_rounds(machine):
    """The classes ahead of the first round and behind each round that splits something, as [64] tells them."""
    n = len(machine)
    told = [[0] * n]
    while True:
        now = told[-1]
        same = [[now[s] == now[t] and all(a == b and now[x] == now[y] for (a, x), (b, y) in zip(machine.rows[s], machine.rows[t]))
                 for t in range(n)] for s in range(n)]
        numbers, behind = {}, []
        for s in range(n):
            first = same[s].index(True)
            numbers.setdefault(first, len(numbers))
            behind.append(numbers[first])
        if behind == now:
            return told
        told.append(behind)


def counter(many):
    """A machine with one reading that counts up and stays: it takes many rounds."""
    return Machine.of_rows(0, 1, [[((1 if k == many - 1 else 0,), min(k + 1, many - 1))] for k in range(many)])


class TestLeast(Case):
    def test_example(self):
        m = Machine.of_rows(1, 1, [[((0,), 0), ((0,), 1)], [((0,), 0), ((0,), 2)], [((0,), 0), ((1,), 2)], [((0,), 0), ((0,), 2)]])
        self.told((0, 1, 2, 1), classes, m)
        self.told(2, rounds, m)
        self.told(((1,), (1,)), told_apart, m, 0, 1)
        self.told(None, told_apart, m, 1, 3)
        self.assertEqual(len(least(m)), 3)

    def test_by_chance(self):
        for number in range(120):
            chance = Chance(number)
            machine = chance.machine(chance.random.randint(1, 7), number % 3, 1)
            told = plain_rounds(machine)
            self.told(tuple(told[-1]), classes, machine)
            self.told(len(told) - 1, rounds, machine)
            self.assertLessEqual(rounds(machine), max(len(machine) - 1, 0))
            self.look_at_least(chance, machine, told[-1])
            lengths = [0]
            for s, t in itertools.product(range(len(machine)), repeat=2):
                row = told_apart(machine, s, t)
                self.look_at_row(machine, s, t, row, told)
                lengths.append(0 if row is None else len(row))
            self.assertEqual(rounds(machine), max(lengths))

    def look_at_least(self, chance, machine, parts):
        small = least(machine)
        self.assertEqual((small.inputs, small.outputs), (machine.inputs, machine.outputs))
        self.assertEqual(small.rows, machine_of(small).rows)
        self.assertEqual(classes(small), tuple(range(len(small))))
        reached, left = {0}, [0]
        while left:
            for _, behind in machine.rows[left.pop()]:
                if behind not in reached:
                    reached.add(behind)
                    left.append(behind)
        self.assertEqual(len(small), len({parts[s] for s in reached}))
        readings = chance.readings(len(machine.inputs), 30)
        self.assertEqual(small.run(readings), machine.run(readings))
        self.assertEqual(least(small), small)
        self.assertTrue(is_tuples(small.rows))

    def look_at_row(self, machine, s, t, row, told):
        if told[-1][s] == told[-1][t]:
            self.assertIsNone(row)
            return
        self.assertTrue(is_tuples(row))
        length = [now[s] == now[t] for now in told].index(False)
        self.assertEqual(len(row), length)
        for other in itertools.product(rows(len(machine.inputs)), repeat=length):
            answers, others = machine.run_from((s,), other)[0], machine.run_from((t,), other)[0]
            if answers[-1] != others[-1]:
                self.assertEqual(row, other)
                self.assertEqual(answers[:-1], others[:-1])
                return
        self.fail()

    def test_unreached_standings_count_in_classes(self):
        machine = Machine.of_rows(0, 1, [[((0,), 0)], [((0,), 2)], [((1,), 2)]])
        self.told((0, 1, 2), classes, machine)
        self.told(2, rounds, machine)
        self.told(((), ()), told_apart, machine, 0, 1)
        self.assertEqual(len(least(machine)), 1)

    def test_numbered_as_met(self):
        machine = Machine.of_rows(1, 1, [[((0,), 2), ((0,), 1)], [((1,), 1), ((0,), 0)], [((0,), 2), ((1,), 1)]])
        self.assertEqual(least(machine).rows, (
            (((0,), 1), ((0,), 2)), (((0,), 1), ((1,), 2)), (((1,), 2), ((0,), 0))))

    def test_no_outputs(self):
        machine = Machine.of_rows(1, 0, [[((), 1), ((), 0)], [((), 0), ((), 1)]])
        self.told((0, 0), classes, machine)
        self.told(0, rounds, machine)
        self.assertEqual(least(machine).rows, ((((), 0), ((), 0)),))

    def test_most_rounds(self):
        machine = counter(30)
        self.told(29, rounds, machine)
        self.told(tuple(range(30)), classes, machine)
        self.told(((),) * 29, told_apart, machine, 0, 1)
        self.told(((),), told_apart, machine, 29, 0)

    def test_more_than_ten_inputs(self):
        machine = Machine.of_rows(11, 1, [[((k % 2,), 0) for k in range(2048)], [((0,), 0)] * 2048])
        self.told(((0,) * 10 + (1,),), told_apart, machine, 1, 0)
        self.assertEqual(len(least(machine)), 1)

    def test_told_apart_refuses(self):
        machine = counter(3)
        for value in NO_NUMBERS + [-1, 3]:
            self.refused(BadNumber, {"word": "s"}, told_apart, machine, value, value)
            self.refused(BadNumber, {"word": "t"}, told_apart, machine, 0, value)

    def test_alike_machines(self):
        for number in range(80):
            chance = Chance(number)
            machine, other = chance.machine(3, 1, 1), chance.machine(2, 1, 1)
            same = all(machine.run(row) == other.run(row) for row in itertools.product([(0,), (1,)], repeat=6))
            self.told(same, alike_machines, machine, other)
            self.assertIs(least(machine) == least(other), same)
        self.told(True, alike_machines, Machine(("p",), ("q",), [[((0,), 0)] * 2]), Machine.of_rows(1, 1, [[((0,), 1)] * 2] * 2))
        for first, second in [((1, 1), (2, 1)), ((1, 1), (1, 2))]:
            parts = [Machine.of_rows(i, o, [[((0,) * o, 0)] * (1 << i)]) for i, o in (first, second)]
            self.refused(OtherShape, {}, alike_machines, *parts)


if __name__ == "__main__":
    unittest.main()
