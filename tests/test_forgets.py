"""Forgetting, healing and what the last readings tell."""

import itertools
import unittest

from guardrungs.errors import BadNumber, BadRow, TooMany
from guardrungs.forgets import forgetting, healing, recent, remembered, unhealed
from guardrungs.least import least
from guardrungs.machines import Machine, machine_of
from guardrungs.rungs import Rungs
from tests.checks import NO_BITS, NO_NUMBERS, NO_ROWS, Case, is_tuples
from tests.plain import Chance, rows

EDGE = Rungs(("i",), ("x",), (), ((("rise", "i"), (("put", "x"),)),))
CLOCK = Rungs((), ("x",), (), ((("not", ("name", "x")), (("put", "x"),)),))
WIDE = Rungs(tuple(f"i{k}" for k in range(11)), ("x",), (), ())


def longest(starts, follow):
    """The number of pairs in the longest row from these pairs on; None if there are ever longer ones."""
    lengths, open_now = {}, set()

    def length(pair):
        if pair in open_now:
            return None
        if pair not in lengths:
            open_now.add(pair)
            told = [length(other) for other in follow(pair)]
            open_now.discard(pair)
            lengths[pair] = None if None in told else 1 + max(told, default=0)
        return lengths[pair]
    told = [length(pair) for pair in starts]
    return None if None in told else max(told, default=0)


def plain_pairs(machine):
    small = least(machine)

    def follow(pair):
        told = {(a[1], b[1]) for a, b in zip(small.rows[pair[0]], small.rows[pair[1]])}
        return [(a, b) for a, b in told if a != b]
    return small, follow


def plain_forgetting(machine):
    small, follow = plain_pairs(machine)
    return longest([(s, t) for s in range(len(small)) for t in range(len(small)) if s != t], follow)


def plain_healing(machine):
    small, follow = plain_pairs(machine)
    met, left = {(0, 0)}, [(0, 0)]
    while left:
        s, t = left.pop()
        for a, b in itertools.product({row[1] for row in small.rows[s]}, {row[1] for row in small.rows[t]}):
            if (a, b) not in met:
                met.add((a, b))
                left.append((a, b))
    return longest([pair for pair in met if pair[0] != pair[1]], follow)


def some_machines():
    chance = Chance(71)
    for _ in range(250):
        yield chance.machine(chance.random.randint(1, 5), chance.random.randint(0, 2), 1)
    for many in range(1, 5):
        # Registers that forget with their lengths, and some of which one bit stays.
        for last in (0, 1):
            size = 1 << many
            rows_told = []
            for s in range(size):
                row = []
                for bit in (0, 1):
                    t = ((s << 1) | bit) & (size - 1)
                    row.append(((s >> (many - 1),), t | (s & 1) * last))
                rows_told.append(row)
            yield Machine.of_rows(1, 1, rows_told)
    for many in range(1, 4):
        # Registers beside a clock: they heal, but do not forget.
        size = 1 << many
        yield Machine.of_rows(1, 1, [
            [(((s & 1) ^ (s >> many),), (1 - (s & 1)) | (((s >> 1 << 1 | bit) & (size - 1)) << 1)) for bit in (0, 1)]
            for s in range(2 * size)])


class TestNumbers(Case):
    def test_forgetting_and_healing(self):
        forgot, healed = {}, {}
        for machine in some_machines():
            k, other = plain_forgetting(machine), plain_healing(machine)
            self.told(k, forgetting, machine)
            self.told(other, healing, machine)
            if k is not None:
                self.assertLessEqual(other, k)
            forgot[k] = forgot.get(k, 0) + 1
            healed[other] = healed.get(other, 0) + 1
        self.assertGreater(min(len(forgot), len(healed)), 4)
        self.assertGreater(min(forgot[None], healed[None]), 10)

    def test_by_rows(self):
        # By the words of [95] and [96]: no two short rows tell against it.
        for machine in list(some_machines())[::7]:
            if len(machine.inputs) != 1:
                continue
            words = [word for many in range(1, 7) for word in itertools.product(rows(1), repeat=many)]
            last = {word: machine.run(word)[-1] for word in words}
            k, other = forgetting(machine), healing(machine)
            for length in range(1, 5):
                told, even = {}, {}
                for word in words:
                    if len(word) >= length:
                        told.setdefault(word[-length:], set()).add(last[word])
                        even.setdefault((len(word), word[-length:]), set()).add(last[word])
                if k is not None and length >= k + 1:
                    self.assertEqual({len(answers) for answers in told.values()}, {1})
                if other is not None and length >= other + 1:
                    self.assertEqual({len(answers) for answers in even.values()}, {1})

    def test_books(self):
        chance = Chance(72)
        for _ in range(30):
            for book in (chance.rungs(rungs=3, inputs=1, cells=1, timers=1, counters=0, deep=2),
                         chance.sheet(blocks=5), chance.chain(steps=3, inputs=1, actions=3)):
                try:
                    machine = machine_of(book)
                except TooMany:
                    continue
                if len(least(machine)) <= 20:
                    self.told(plain_forgetting(machine), forgetting, book)
                    self.told(plain_healing(machine), healing, book)

    def test_edges(self):
        self.assertEqual((forgetting(CLOCK), healing(CLOCK)), (None, 0))
        still = Rungs(("i",), (), ("c",), ((("name", "i"), (("set", "c"),)),))
        self.assertEqual((forgetting(still), healing(still)), (0, 0))
        held = Rungs(("i",), ("x",), (), ((("name", "i"), (("set", "x"),)),))
        self.assertEqual((forgetting(held), healing(held)), (None, None))
        wire = Rungs(("i",), ("x",), (), ((("name", "i"), (("put", "x"),)),))
        self.assertEqual((forgetting(wire), healing(wire)), (0, 0))
        for number in range(17):
            book = Rungs(("i",), ("x",), (), ((("name", "i"), (("feed", "t"),)), (("name", "t"), (("put", "x"),))),
                         timers=(("t", "on", number),))
            self.assertEqual((forgetting(book), healing(book)), (number, number))

    def test_pairs_that_come_late(self):
        # A branch into two rings: their standings meet in pairs only after many rounds.
        def rings(a, b):
            told = [[((0,), 1), ((0,), 1 + a)]]
            told += [[((0 if s else 1,), 1 + (s + 1) % a)] * 2 for s in range(a)]
            told += [[((0 if s else 1,), 1 + a + (s + 1) % b)] * 2 for s in range(b)]
            return Machine.of_rows(1, 1, told)
        for a, b in ((2, 3), (3, 5), (4, 4), (7, 8)):
            self.told(plain_healing(rings(a, b)), healing, rings(a, b))
            self.told(plain_forgetting(rings(a, b)), forgetting, rings(a, b))


class TestRows(Case):
    def check(self, book, call, k, even):
        told = call(book, k)
        least_k = healing(book) if even else forgetting(book)
        if least_k is not None and k >= least_k:
            self.assertIsNone(told)
            return
        row, other = told
        self.assertTrue(is_tuples(told))
        self.assertGreaterEqual(min(len(row), len(other)), k + 1)
        if even:
            self.assertEqual(len(row), len(other))
        self.assertEqual(row[-k - 1:], other[-k - 1:])
        self.assertNotEqual(book.run(row)[-1], book.run(other)[-1])

    def test_remembered_and_unhealed(self):
        for machine in some_machines():
            for k in (0, 1, 2, 3, 5, 40):
                self.check(machine, remembered, k, False)
                self.check(machine, unhealed, k, True)

    def test_books(self):
        chance = Chance(73)
        for book in (EDGE, CLOCK, chance.rungs(rungs=3, timers=1, counters=0), chance.chain(actions=3),
                     chance.sheet(blocks=5)):
            for k in (0, 1, 2, 7):
                self.check(book, remembered, k, False)
                self.check(book, unhealed, k, True)

    def test_greatest_k(self):
        held = Rungs(("i",), ("x",), (), ((("name", "i"), (("set", "x"),)),))
        self.check(held, remembered, 4000, False)
        self.check(held, unhealed, 4000, True)
        self.check(CLOCK, remembered, 4000, False)
        self.told(None, unhealed, CLOCK, 4000)
        self.told(None, remembered, EDGE, 4000)

    def test_wrong(self):
        for call in (remembered, unhealed):
            for wrong in NO_NUMBERS + [-1, 4001]:
                self.refused(BadNumber, {"word": "k"}, call, EDGE, wrong)
            self.refused(TooMany, {"limit": 10}, call, WIDE, -1)
        for call in (forgetting, healing):
            self.refused(TooMany, {"limit": 10}, call, WIDE)
        cells = tuple(f"c{k}" for k in range(11))
        ins = tuple(f"i{k}" for k in range(10))
        rungs = [(("name", i), (("put", c),)) for i, c in zip(ins, cells)] + [(("rise", "i0"), (("put", "c10"),))]
        rungs.append((("fall", "i1"), (("put", "x"),)))
        big = Rungs(ins, ("x",), cells, rungs)
        for call in (remembered, unhealed):
            self.refused(BadNumber, {"word": "k"}, call, big, 4001)
            self.refused(TooMany, {"limit": 2000}, call, big, 0)
        self.refused(TooMany, {"limit": 2000}, forgetting, big)
        self.refused(TooMany, {"limit": 2000}, healing, big)
        self.refused(TooMany, {"limit": 2000}, recent, big, [(0,) * 10], 0)
        self.refused(BadNumber, {"word": "k"}, recent, big, [(0,) * 10], 1)


class TestRecent(Case):
    def plain(self, machine, readings, k):
        answers = set()
        for s in range(len(machine)):
            now = s
            for row in readings[len(readings) - k - 1:]:
                answer, now = machine(now, row)
            answers.add(answer)
        return answers.pop() if len(answers) == 1 else None

    def test_recent(self):
        chance = Chance(74)
        met = {}
        for machine in some_machines():
            machine = machine_of(machine)
            readings = chance.readings(len(machine.inputs), 6)
            for k in range(6):
                wanted = self.plain(machine, readings, k)
                self.told(wanted, recent, machine, [list(row) for row in readings], k)
                met[wanted] = met.get(wanted, 0) + 1
                if forgetting(machine) is not None and k >= forgetting(machine):
                    self.assertEqual(wanted, machine.run(readings)[-1])
        self.assertGreater(min(met.values()), 100)

    def test_any_length_counts(self):
        # The clock stands at 0 or 1 behind rows of unlike lengths, so no readings alone tell its answer.
        self.told(None, recent, CLOCK, [(), (), ()], 2)
        self.told((0,), recent, EDGE, [(0,), (1,), (1,)], 1)
        self.told(None, recent, EDGE, [(0,), (1,), (1,)], 0)
        self.told((1,), recent, EDGE, ((0,), (1,)), 1)

    def test_wrong(self):
        for wrong in NO_NUMBERS + [-1, 2]:
            self.refused(BadNumber, {"word": "k"}, recent, EDGE, [(0,), (1,)], wrong)
        self.refused(BadNumber, {"word": "k"}, recent, EDGE, [], 0)
        for wrong in NO_ROWS + [(), (0, 1)]:
            self.refused(BadRow, {"place": -1}, recent, EDGE, [(0,), wrong, None], -1)
        for wrong in NO_BITS:
            self.refused(BadRow, {"place": 0}, recent, EDGE, [(0,), (wrong,)], -1)
        self.refused(TooMany, {"limit": 10}, recent, WIDE, [None], -1)


if __name__ == "__main__":
    unittest.main()
