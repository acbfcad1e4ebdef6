"""[16], [17]: timers and counters."""

import itertools
import unittest

from guardrungs.errors import BadNumber
from guardrungs.ticks import KINDS, check_timer, counter_step, timer_start, timer_step
from tests.checks import NO_NUMBERS, Case
from tests.plain import Timer


def bits_of(kind, number, bits):
    count, told = timer_start(kind, number), []
    for bit in bits:
        out, count = timer_step(kind, number, count, bit)
        told.append(out)
    return tuple(told)


class TestTimers(Case):
    def test_kinds(self):
        self.assertEqual(KINDS, ("on", "off", "pulse"))

    def test_starts(self):
        self.told(0, timer_start, "on", 5)
        self.told(5, timer_start, "off", 5)
        self.told(0, timer_start, "pulse", 5)

    def test_told_bits(self):
        self.assertEqual(bits_of("on", 2, (1, 1, 1, 0, 1)), (0, 0, 1, 0, 0))
        self.assertEqual(bits_of("off", 2, (1, 0, 0, 0)), (1, 1, 1, 0))
        self.assertEqual(bits_of("pulse", 2, (1, 0, 1, 1, 0, 1)), (1, 1, 1, 1, 0, 1))
        self.assertEqual(bits_of("pulse", 1, (1, 1, 0, 1)), (1, 0, 0, 1))
        self.assertEqual(bits_of("on", 0, (1, 0, 1)), (1, 0, 1))
        self.assertEqual(bits_of("off", 0, (1, 0, 1)), (1, 0, 1))
        self.assertEqual(bits_of("off", 16, (0, 0)), (0, 0))

    def test_steps(self):
        self.told((0, 1), timer_step, "on", 2, 0, 1)
        self.told((1, 2), timer_step, "on", 2, 2, 1)
        self.told((0, 0), timer_step, "on", 2, 2, 0)
        self.told((1, 0), timer_step, "off", 2, 2, 1)
        self.told((1, 1), timer_step, "off", 2, 0, 0)
        self.told((0, 2), timer_step, "off", 2, 2, 0)
        self.told((1, 2 * 2 + 1), timer_step, "pulse", 3, 0, 1)
        self.told((1, 2 * 1 + 0), timer_step, "pulse", 3, 5, 0)
        self.told((0, 1), timer_step, "pulse", 3, 1, 1)
        self.told((0, 0), timer_step, "pulse", 3, 1, 0)
        self.told((1, 1), timer_step, "pulse", 1, 0, 1)

    def test_by_what_they_tell(self):
        for kind in KINDS:
            for number in (0, 1, 2, 3, 15, 16):
                if kind == "pulse" and number == 0:
                    continue
                rows = list(itertools.product((0, 1), repeat=8))
                if number > 3:
                    rows = [row for row in rows[:16]]
                    rows = [row[4:] + (1,) * 18 + row[4:] + (0,) * 18 + (1,) for row in rows]
                for row in rows:
                    timer = Timer(kind, number)
                    self.assertEqual(bits_of(kind, number, row), tuple(timer.work(bit) for bit in row))

    def test_refused(self):
        calls = [check_timer, timer_start, lambda kind, number: timer_step(kind, number, 0, 0)]
        for call in calls:
            for kind in ["", "On", "count", None, 1, ("on",), ["on"], "onoff"]:
                self.refused(BadNumber, {"word": "kind"}, call, kind, 3)
                self.refused(BadNumber, {"word": "kind"}, call, kind, 99)
            for kind in KINDS:
                for number in NO_NUMBERS + [-1, 17, 100]:
                    self.refused(BadNumber, {"word": "number"}, call, kind, number)
            self.refused(BadNumber, {"word": "number"}, call, "pulse", 0)
        for kind, number in [("on", 0), ("on", 16), ("off", 0), ("off", 16), ("pulse", 1), ("pulse", 16)]:
            self.assertIsNone(check_timer(kind, number))


class TestCounters(Case):
    def test_steps(self):
        self.told((0, 1, 1), counter_step, 2, 0, 0, 1, 0)
        self.told((0, 1, 1), counter_step, 2, 1, 1, 1, 0)
        self.told((0, 1, 0), counter_step, 2, 1, 1, 0, 0)
        self.told((1, 2, 1), counter_step, 2, 1, 0, 1, 0)
        self.told((1, 2, 1), counter_step, 2, 2, 0, 1, 0)
        self.told((0, 0, 1), counter_step, 2, 2, 0, 1, 1)
        self.told((0, 0, 0), counter_step, 2, 2, 1, 0, 1)
        self.told((1, 1, 1), counter_step, 1, 0, 0, 1, 0)
        self.told((1, 16, 1), counter_step, 16, 15, 0, 1, 0)

    def test_what_the_count_tells(self):
        for number in (1, 2, 3):
            for bits in itertools.product((0, 1), repeat=5):
                for clears in [(0, 0, 0, 0, 0), (0, 0, 1, 0, 0), (0, 1, 0, 1, 0), (1, 0, 0, 0, 1)]:
                    count, last = 0, 0
                    for at in range(5):
                        out, count, last = counter_step(number, count, last, bits[at], clears[at])
                        begin = max([k + 1 for k in range(at + 1) if clears[k]] + [0])
                        rises = [k for k in range(begin, at + 1) if bits[k] and (k == 0 or not bits[k - 1])]
                        self.assertEqual(count, min(len(rises), number))
                        self.assertEqual(out, 1 if count == number else 0)
                        self.assertEqual(last, bits[at])

    def test_refused(self):
        for number in NO_NUMBERS + [0, -1, 17]:
            self.refused(BadNumber, {"word": "number"}, counter_step, number, 0, 0, 0, 0)


if __name__ == "__main__":
    unittest.main()
