"""Whole tasks and rank orders."""

import itertools
import math
import unittest

from guardrungs.arenas import Arena
from guardrungs.alarms import Watched
from guardrungs.errors import BadBook, BadFormula, BadNumber, BadRow, TooMany
from guardrungs.formsof import chain_of, rungs_of, sheet_of
from guardrungs.joining import Beside, Bent, InRow
from guardrungs.machines import Machine, machine_of
from guardrungs.plants import Plant
from guardrungs.ranks import due_together, first_together, ranked, same_for_all_ranks, telling_ranks
from guardrungs.rungs import Rungs
from guardrungs.sheets import Sheet
from guardrungs.tasks import Tasks
from tests.checks import NO_BITS, NO_NAMES, NO_NUMBERS, Case
from tests.plain import Chance

COPY = Rungs(("i",), ("x",), (), ((("name", "i"), (("put", "x"),)),))
NEXT = Rungs(("x",), ("y",), (), ((("name", "x"), (("put", "y"),)),))


def named(book, ins, outs):
    """A machine that is alike the book with other names."""
    return Machine(ins, outs, machine_of(book).rows)


def random_tasks(chance, many, inputs=2):
    """Tasks that read inputs and written names; each writes two names or one."""
    names = [f"i{k}" for k in range(inputs)]
    sizes = [chance.random.randint(0, 2) for _ in range(many)]
    writes = [[f"w{k}.{j}" for j in range(size)] for k, size in enumerate(sizes)]
    told = []
    for k in range(many):
        known = names + [name for j, row in enumerate(writes) for name in row if j != k]
        reads = chance.some(known, 0, 3)
        kind = chance.random.randrange(3)
        if kind == 0:
            book = chance.machine(3, len(reads), sizes[k])
        elif kind == 1:
            book = machine_of(chance.rungs(rungs=3, inputs=len(reads), outputs=sizes[k], cells=1, timers=0, counters=0))
        else:
            book = machine_of(chance.sheet(blocks=4, inputs=len(reads), outputs=sizes[k]))
        period = chance.pick((1, 2, 3, 4, 6, 12))
        told.append((named(book, reads, writes[k]), period, chance.random.randrange(period)))
    every = [name for row in writes for name in row]
    return Tasks(names, chance.some(every, 0, 5), told)


class TestTasks(Case):
    def ticks(self, tasks, readings, order=None):
        """The answers and the standing behind, tick for tick by the words of [167]."""
        order = range(len(tasks.tasks)) if order is None else order
        told = [tasks.tasks[k] for k in order]
        names = [name for book, _, _ in told for name in book.outputs]
        bits = {name: 0 for name in names}
        kept = [book.start() for book, _, _ in told]
        answers = []
        for tick, reading in enumerate(readings):
            bits.update(zip(tasks.inputs, reading))
            for k, (book, period, offset) in enumerate(told):
                if tick >= offset and (tick - offset) % period == 0:
                    answer, kept[k] = book.step(kept[k], tuple(bits[name] for name in book.inputs))
                    bits.update(zip(book.outputs, answer))
            answers.append(tuple(bits[name] for name in tasks.outputs))
        common = math.lcm(*[period for _, period, _ in told])
        standing = (len(readings) % common,) + tuple(bits[name] for name in names) + tuple(n for s in kept for n in s)
        return tuple(answers), standing

    def test_by_chance(self):
        chance = Chance(351)
        for number in range(150):
            tasks = random_tasks(chance, number % 5)
            self.assertEqual(tasks.common, math.lcm(*[period for _, period, _ in tasks.tasks]))
            readings = chance.readings(2, 30)
            answers, standing = self.ticks(tasks, readings)
            self.told(answers, tasks.run, readings)
            self.assertEqual(tasks.run_from(tasks.start(), [list(row) for row in readings]), (answers, standing))
            cut = chance.random.randint(0, 30)
            told, middle = tasks.run_from(tasks.start(), readings[:cut])
            self.assertEqual(self.ticks(tasks, readings[:cut])[1], middle)
            self.assertEqual(tasks.run_from(middle, readings[cut:]), (answers[cut:], standing))
            for order in itertools.permutations(range(len(tasks.tasks))):
                other = tasks.in_rank(order)
                self.assertEqual((other.inputs, other.outputs, other.common),
                                 (tasks.inputs, tasks.outputs, tasks.common))
                self.assertEqual(other.tasks, tuple(tasks.tasks[k] for k in order))
                self.assertEqual(other.run_from(other.start(), readings), self.ticks(tasks, readings, order))
            for tick in list(range(14)) + [1000]:
                due = tuple(k for k, (_, period, offset) in enumerate(tasks.tasks) if tick % period == offset)
                self.told(due, tasks.due, tick)

    def test_machine_and_forms(self):
        chance, forms = Chance(352), 0
        for number in range(60):
            tasks = random_tasks(chance, number % 3 + 1)
            readings = chance.readings(2, 30)
            try:
                machine = machine_of(tasks)
            except TooMany:
                continue
            self.assertEqual(machine.run(readings), tasks.run(readings))
            if len(machine) <= 64:
                for form in (rungs_of, sheet_of, chain_of):
                    self.assertEqual(form(machine).run(readings), tasks.run(readings))
                forms += 1
            self.assertEqual(Beside(tasks, machine).run([row * 2 for row in readings]),
                             tuple(row * 2 for row in tasks.run(readings)))
        self.assertGreater(forms, 20)

    def test_kinds_of_books(self):
        """Books of all kinds are tasks, tasks of tasks, too."""
        sheet = Sheet(("x",), (("w", "cell", ("x",), 0),), (("s", "w"),))
        plant = Plant(((2, ((0, "a", 1),)),), 1, (("level", 0, (1,)),))
        watched = Watched(Arena(plant, 0, 1), Machine(("s",), ("out",), [[((1,), 0)] * 2]))
        inner = Tasks(("i",), ("x",), ((COPY, 2, 1),))
        tasks = Tasks(("i",), ("x", "s", "out", "z"), ((inner, 1, 0), (sheet, 1, 0), (watched, 1, 0)))
        self.assertEqual(tasks.run([(1,), (1,), (0,), (0,)]), ((0, 0, 1, 0), (1, 0, 1, 0), (1, 1, 1, 0), (0, 1, 1, 0)))
        bent = Bent(Beside(COPY, COPY), (0, 0))
        told = Tasks(("n0",), ("a.a.x", "a.b.x"), ((bent, 1, 0),))
        self.assertEqual(told.run([(1,), (0,)]), ((1, 1), (0, 0)))
        row = InRow(COPY, NEXT)
        self.assertEqual(Tasks(row.inputs, row.outputs, ((row, 12, 11),)).run([(1,)] * 13)[10:], ((0,), (1,), (1,)))

    def test_example_and_edges(self):
        tasks = Tasks(("i",), ("x", "y"), ((COPY, 2, 0), (NEXT, 3, 1)))
        readings = [[1], [0], [0], [0], [1]]
        self.told(((1, 0), (1, 1), (0, 1), (0, 1), (1, 1)), tasks.run, readings)
        self.assertEqual((tasks.common, tasks.due(4), tasks.in_rank([1, 0]).run(readings)[4]), (6, (0, 1), (1, 0)))
        none = Tasks(["i"], [], [])
        self.assertEqual((none.inputs, none.outputs, none.tasks, none.common), (("i",), (), (), 1))
        self.assertEqual((none.start(), none.run([(1,), (0,)]), none.due(0)), ((0,), ((), ()), ()))
        self.assertEqual(none.in_rank(()).tasks, ())
        four = [(Rungs((), (f"x{k}",), (), ((("not", ("name", f"x{k}")), (("put", f"x{k}"),)),)), 12, k) for k in range(4)]
        told = Tasks((), tuple(f"x{k}" for k in range(4)), four)
        self.assertEqual((told.common, told.run([()] * 13)[11], told.run([()] * 13)[12]), (12, (1, 1, 1, 1), (0, 1, 1, 1)))
        many = Tasks((), (), [(four[k][0], period, 0) for k, period in enumerate((12, 11, 7, 5))])
        self.assertEqual((many.common, len(many.run([()] * 200))), (4620, 200))
        given = [(COPY, 2, 0)]
        held = Tasks(("i",), ("x",), given)
        given.append(None)
        self.assertEqual(held.tasks, ((COPY, 2, 0),))

    def test_wrong(self):
        task = (COPY, 1, 0)
        self.refused(TooMany, {"limit": 4}, Tasks, (1,), (1,), (task,) * 5)
        self.refused(TooMany, {"limit": 4}, Tasks, ("i",), ("x",), (None,) * 5)
        for wrong in NO_NAMES + ["i"]:
            self.refused(BadBook, {"word": "name", "place": 1}, Tasks, ("i", wrong), (3,), (None,))
        times = [(0, 0), (13, 0), (2, 2), (2, -1), (-1, 0), (1, 1)] + [(one, 0) for one in NO_NUMBERS] + [
            (3, one) for one in NO_NUMBERS]
        for wrong in [None, (), task[:2], task + (0,), list(task), (None, 1, 0), ("book", 1, 0)] + [
                (NEXT,) + time for time in times]:
            self.refused(BadBook, {"word": "task", "place": 1}, Tasks, ("i",), (3,), (task, wrong))
        taken = Rungs((), ("i",), (), ())
        self.refused(BadBook, {"word": "task", "place": 0}, Tasks, ("i",), (3,), ((taken, 1, 0), None))
        self.refused(BadBook, {"word": "task", "place": 1}, Tasks, ("i",), (), (task, task))
        # All tasks are looked at ahead of what they read.
        self.refused(BadBook, {"word": "task", "place": 1}, Tasks, (), (3,), (task, None))
        self.refused(BadBook, {"word": "task", "place": 0}, Tasks, ("x",), (3,), ((Rungs(("q",), (), (), ()), 1, 0),))
        self.refused(BadBook, {"word": "task", "place": 1}, Tasks, ("i",), (3,), (task, (Rungs(("q",), (), (), ()), 1, 0)))
        for wrong in ("i", "x", "q", None, 0, ("x",), ["x"]):
            self.refused(BadBook, {"word": "output", "place": 1}, Tasks, ("i",), ("x", wrong), (task,))
        tasks = Tasks(("i",), ("x",), (task,))
        self.refused(BadRow, {"place": -1}, tasks.step, tasks.start(), (0, 0))
        self.refused(BadRow, {"place": 0}, tasks.step, tasks.start(), (2,))
        for wrong in [-1] + NO_NUMBERS:
            self.refused(BadNumber, {"word": "tick"}, tasks.due, wrong)
        for wrong in (None, (), (1,), (0, 0), "0", (True,), (False,)):
            self.refused(BadNumber, {"word": "order"}, tasks.in_rank, wrong)


FRAME = ((("a",), "x"), (("x",), "y"))


class TestRanks(Case):
    def test_together(self):
        for period, other in itertools.product((1, 2, 3, 4, 6, 9, 12, 23, 24), repeat=2):
            for offset, other_offset in itertools.product({0, 1, period // 2, period - 1}, {0, other // 3, other - 1}):
                if offset >= period:
                    continue
                both = [t for t in range(period * other) if t % period == offset and t % other == other_offset]
                args = (period, offset, other, other_offset)
                self.told(bool(both), due_together, *args)
                self.told(both[0] if both else None, first_together, *args)
        self.told(4, first_together, 2, 0, 3, 1)
        self.told(False, due_together, 2, 0, 4, 1)

    def frame(self, chance, many):
        names = [f"w{k}" for k in range(many)]
        return tuple((tuple(sorted(chance.some(["a", "b"] + names, 0, 3))), name) for name in names)

    def fillings(self, chance, frame):
        return tuple(chance.formula(list(reads) + [f"u{k}"], 3, False) for k, (reads, _) in enumerate(frame))

    def test_by_chance(self):
        chance, met = Chance(353), {"same": 0, "unlike": 0, "other order": 0}
        for number in range(250):
            many = number % 5
            frame = self.frame(chance, many)
            times = [(period, chance.random.randrange(period)) for period in
                     [chance.pick((1, 2, 3, 4, 12)) for _ in range(many)]]
            order, other = [tuple(chance.random.sample(range(many), many)) for _ in range(2)]
            same = True
            for i, j in itertools.combinations(range(many), 2):
                touch = frame[i][1] in frame[j][0] or frame[j][1] in frame[i][0]
                due = any(t % times[i][0] == times[i][1] and t % times[j][0] == times[j][1] for t in range(144))
                if touch and due and (order.index(i) < order.index(j)) != (other.index(i) < other.index(j)):
                    same = False
            self.told(same, same_for_all_ranks, frame, times, order, other)
            told = self.told(telling_ranks(frame, times, order, other), telling_ranks, frame, times, order, other)
            self.assertIs(told is None, same)
            met["same" if same else "unlike"] += 1
            met["other order"] += same and order != other
            if told is None:
                for _ in range(3):
                    filling = self.fillings(chance, frame)
                    one, two = ranked(frame, filling, times, order), ranked(frame, filling, times, other)
                    readings = chance.readings(len(one.inputs), 30)
                    self.assertEqual(one.run(readings), two.run(readings))
            else:
                filling, tick = told
                self.assertTrue(0 <= tick < 144)
                one, two = ranked(frame, filling, times, order), ranked(frame, filling, times, other)
                readings = [[1 if t == tick and name[0] == "u" else 0 for name in one.inputs] for t in range(tick + 1)]
                self.assertNotEqual(one.run(readings)[tick], two.run(readings)[tick])
        self.assertGreater(min(met.values()), 20, met)

    def test_ranked(self):
        chance = Chance(354)
        for number in range(80):
            many = number % 5
            frame, order = self.frame(chance, many), tuple(chance.random.sample(range(many), many))
            times = tuple((p, chance.random.randrange(p)) for p in [chance.pick((1, 3, 12)) for _ in range(many)])
            filling = self.fillings(chance, frame)
            tasks = ranked(list(frame), list(filling), [list(pair) for pair in times], list(order))
            names = [name for _, name in frame]
            read = sorted({name for reads, _ in frame for name in reads} - set(names))
            self.assertEqual(tasks.inputs, tuple(read + [f"u{k}" for k in range(many)]))
            self.assertEqual(tasks.outputs, tuple(names))
            for k, (book, period, offset) in zip(order, tasks.tasks):
                self.assertEqual((period, offset), times[k])
                self.assertIsInstance(book, Rungs)
                self.assertEqual(book.inputs, tuple(name for name in frame[k][0] if name != names[k]) + (f"u{k}",))
                self.assertEqual((book.outputs, book.cells), ((names[k],), ()))
                self.assertEqual(book.rungs, ((filling[k], (("put", names[k]),)),))

    def test_wrong_frames(self):
        five = tuple(((), f"w{k}") for k in range(5))
        for call, args in ((same_for_all_ranks, (None, None, None)), (ranked, (None, None, None)),
                           (telling_ranks, (None, None, None))):
            self.refused(TooMany, {"limit": 4}, call, five, *args)
            self.refused(TooMany, {"limit": 4}, call, [None] * 5, *args)
            self.refused(BadBook, {"word": "frame", "place": 1}, call, (((), "a"), None), *args)
            self.refused(BadBook, {"word": "frame", "place": 1}, call, (((), "a"), ((), "a")), *args)
            self.refused(BadBook, {"word": "frame", "place": 0}, call, ((("b", "a"), "c"),), *args)

    def test_wrong_fillings(self):
        good = (("name", "u0"), ("name", "x"))
        for wrong in (None, (), good[:1], good + (("bit", 0),), "ab", {}):
            self.refused(BadFormula, {}, ranked, FRAME, wrong, None, None)
        for wrong in (None, ("name", "y"), ("name", "u1"), ("rise", "a"), ("name", "zz"), ("bit", 2), ("and", (("bit", 0),))):
            self.refused(BadFormula, {}, ranked, FRAME, (wrong, good[1]), None, None)
        own = ranked(((("x",), "x"),), (("not", ("name", "x")),), ((1, 0),), (0,))
        self.assertEqual(own.run([(0,), (0,), (0,)]), ((1,), (0,), (1,)))

    def test_wrong_times_and_orders(self):
        good = (("name", "u0"), ("name", "x"))
        for wrong in [None, (), ((1, 0),), ((1, 0),) * 3, "ab", ((1, 0), None), ((1, 0), (1,)), ((1, 0), (1, 0, 0))] + [
                ((1, 0), pair) for pair in ((0, 0), (13, 0), (2, 2), (2, -1), (True, 0), (2, False), ("1", 0), (1, None))]:
            self.refused(BadNumber, {"word": "times"}, same_for_all_ranks, FRAME, wrong, None, None)
            self.refused(BadNumber, {"word": "times"}, telling_ranks, FRAME, wrong, None, None)
            self.refused(BadNumber, {"word": "times"}, ranked, FRAME, good, wrong, None)
        times = ((12, 11), [1, 0])
        for wrong in [None, (), (0,), (0, 0), (0, 2), (1, True), "01"] + [(0, bit) for bit in NO_BITS[2:]]:
            self.refused(BadNumber, {"word": "order"}, same_for_all_ranks, FRAME, times, wrong, None)
            self.refused(BadNumber, {"word": "order"}, telling_ranks, FRAME, times, wrong, None)
            self.refused(BadNumber, {"word": "order"}, ranked, FRAME, good, times, wrong)
            self.refused(BadNumber, {"word": "other"}, same_for_all_ranks, FRAME, times, (0, 1), wrong)
            self.refused(BadNumber, {"word": "other"}, telling_ranks, FRAME, times, (0, 1), wrong)
        self.told(False, same_for_all_ranks, FRAME, ((2, 0), (3, 1)), (0, 1), (1, 0))
        self.told(True, same_for_all_ranks, FRAME, ((2, 0), (4, 1)), (0, 1), (1, 0))
        self.told(True, same_for_all_ranks, (), (), (), ())
        self.told(None, telling_ranks, (), [], (), [])
        self.assertEqual(ranked((), (), (), ()).run([()]), ((),))
        self.assertEqual(telling_ranks(FRAME, ((12, 11), (11, 10)), (0, 1), (1, 0))[1], 131)


if __name__ == "__main__":
    unittest.main()
