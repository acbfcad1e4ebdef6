"""Rows of timers, rules and normal rows."""

import itertools
import unittest

from guardrungs.errors import BadNumber, BadRow
from guardrungs.timerrows import (
    alike_rows, check_timer_row, normal, one_rule, row_bits, rules_at, signed_path, told_by, trims, use)
from tests.checks import NO_BITS, NO_NUMBERS, NO_ROWS, Case
from tests.plain import Chance
from tests.test_windows import plain_timer

PAIRS = [(kind, number) for kind in ("on", "off") for number in (0, 1, 2, 3)]
NO_TIMER_ROWS = [
    None, "on", 3, {0: ("on", 1)}, ("on", 1), (("on", 1), None), (("on",),), (("on", 1, 1),), (("pulse", 1),),
    (("ON", 1),), ((["on"], 1),), (("on", -1),), (("on", True),), (("off", None),), (("off", "1"),), ("on",),
    (("on", 1), ("off", 1.0))]


def plain_bits(row, bits, delay=0):
    told = tuple(bits)
    for kind, number in row:
        told = plain_timer(kind, number, told)
    return ((0,) * delay + told)[:len(bits)]


def plain_rule(row, place):
    """By the words of [79]."""
    if row[place][1] == 0:
        return "nothing"
    if place + 1 < len(row) and row[place][0] == row[place + 1][0]:
        return "added"
    if place + 2 < len(row) and row[place][0] == row[place + 2][0] and row[place][0] != row[place + 1][0]:
        a, b, c = [row[k][1] for k in range(place, place + 3)]
        if b <= a and b <= c:
            return "swing"
        if b <= a and c < b:
            return "tail"
    return None


def plain_use(row, delay, place):
    row = list(row)
    rule = plain_rule(row, place)
    kind, a = row[place]
    if rule == "nothing":
        return tuple(row[:place] + row[place + 1:]), delay
    if rule == "added":
        return tuple(row[:place] + [(kind, a + row[place + 1][1])] + row[place + 2:]), delay
    b, c = row[place + 1][1], row[place + 2][1]
    if rule == "swing":
        return tuple(row[:place] + [(kind, a + c - b)] + row[place + 3:]), delay + b
    return tuple(row[:place] + [(kind, a), (row[place + 1][0], b - c)] + row[place + 3:]), delay + c


def some_row(chance, most=8, top=60):
    return tuple((chance.pick(("on", "off")), chance.random.randint(0, top))
                 for _ in range(chance.random.randint(0, most)))


def is_normal(row):
    kinds = all(a[0] != b[0] for a, b in zip(row, row[1:]))
    numbers = [number for _, number in row]
    rising = all(a < b for a, b in zip(numbers[:-1], numbers[1:-1]))
    return kinds and all(number >= 1 for number in numbers) and rising


class TestRowBits(Case):
    def test_bits(self):
        chance = Chance(31)
        for _ in range(150):
            row = some_row(chance, 5, 6)
            bits = [bit[0] for bit in chance.readings(1, chance.random.randint(0, 60))]
            delay = chance.random.randint(0, 9)
            self.told(plain_bits(row, bits, delay), row_bits, [list(pair) for pair in row], bits, delay=delay)
            self.told(plain_bits(row, bits), row_bits, row, tuple(bits))

    def test_numbers_above_16_and_long_delays(self):
        bits = [1] * 300 + [0] * 300
        row = (("on", 100), ("off", 150))
        self.assertEqual(row_bits(row, bits), plain_bits(row, bits))
        self.assertEqual(row_bits(row, bits, delay=1000), (0,) * 600)
        self.assertEqual(row_bits((), bits), tuple(bits))
        self.assertEqual(row_bits((("on", 10 ** 9),), (1, 1)), (0, 0))
        self.assertEqual(row_bits((("off", 10 ** 9),), (0, 1, 0)), (0, 1, 1))

    def test_wrong(self):
        for wrong in NO_TIMER_ROWS:
            self.refused(BadNumber, {"word": "row"}, row_bits, wrong, None, delay=-1)
            self.refused(BadNumber, {"word": "row"}, check_timer_row, wrong)
            self.refused(BadNumber, {"word": "row"}, normal, wrong, delay=-1)
            self.refused(BadNumber, {"word": "row"}, one_rule, wrong, -1)
            self.refused(BadNumber, {"word": "row"}, rules_at, wrong)
            self.refused(BadNumber, {"word": "row"}, use, wrong, -1, -1)
            self.refused(BadNumber, {"word": "row"}, trims, wrong)
            self.refused(BadNumber, {"word": "row"}, signed_path, wrong)
            for call in (alike_rows, told_by):
                self.refused(BadNumber, {"word": "row"}, call, wrong, -1, wrong, -1)
                self.refused(BadNumber, {"word": "other"}, call, (), 0, wrong, -1)
        for wrong in NO_ROWS:
            self.refused(BadRow, {"place": -1}, row_bits, (), wrong, delay=-1)
        for wrong in NO_BITS:
            self.refused(BadRow, {"place": 1}, row_bits, (), (1, wrong), delay=-1)
        for wrong in NO_NUMBERS + [-1]:
            self.refused(BadNumber, {"word": "delay"}, row_bits, (), (1,), delay=wrong)
            self.refused(BadNumber, {"word": "delay"}, normal, (), delay=wrong)
            self.refused(BadNumber, {"word": "delay"}, one_rule, (), wrong)
            self.refused(BadNumber, {"word": "delay"}, use, (), wrong, -1)
            for call in (alike_rows, told_by):
                self.refused(BadNumber, {"word": "delay"}, call, (), wrong, None, -1)
                self.refused(BadNumber, {"word": "other_delay"}, call, (), 0, (), wrong)
        for row in ((), (("on", 2),), (("off", 1), ("on", 2))):
            for wrong in NO_NUMBERS + [-1, 0, 1, 2]:
                self.refused(BadNumber, {"word": "place"}, use, row, 0, wrong)
        self.assertIsNone(check_timer_row([["on", 0], ("off", 77)]))
        self.assertIsNone(check_timer_row(()))


class TestRules(Case):
    def test_rules_of_all_short_rows(self):
        for length in range(5):
            for row in itertools.product(PAIRS, repeat=length):
                rules = [(place, plain_rule(row, place)) for place in range(length)]
                rules = tuple(pair for pair in rules if pair[1] is not None)
                self.assertEqual(rules_at(row), rules)
                self.assertEqual(rules == (), is_normal(row))
                if not rules:
                    self.assertIsNone(one_rule(row, 4))
                    self.assertEqual(normal(row, delay=4), (row, 4))
                    continue
                early = [pair for pair in rules if pair[1] in ("nothing", "added")]
                place, rule = early[0] if early else rules[0]
                self.assertEqual(one_rule(row, 4), plain_use(row, 4, place) + (rule,))
                told = normal(row, delay=4)
                for place, _ in rules:
                    step = use(row, 4, place)
                    self.assertEqual(step, plain_use(row, 4, place))
                    self.assertLess(len(step[0]), length)
                    self.assertEqual(normal(step[0], delay=step[1]), told)
                    self.assertEqual([a + step[1] for a in trims(step[0])], [a + 4 for a in trims(row)])
                    self.assertLessEqual(sum(trims(step[0])), sum(trims(row)))

    def test_no_rule_changes_what_comes_out(self):
        chance = Chance(32)
        for _ in range(200):
            row, delay = some_row(chance, 6, 5), chance.random.randint(0, 3)
            bits = [bit[0] for bit in chance.readings(1, 120)]
            wanted = plain_bits(row, bits, delay)
            for place, _ in rules_at(row):
                step = use(row, delay, place)
                self.assertEqual(plain_bits(step[0], bits, step[1]), wanted)
            self.assertEqual(plain_bits(normal(row, delay=delay)[0], bits, normal(row, delay=delay)[1]), wanted)

    def test_edges(self):
        self.told((("on", 1), ("off", 2), ("on", 3)), lambda: normal((("on", 1), ("off", 2), ("on", 3)))[0])
        self.told(((), 0), normal, [])
        self.told(((), 7), normal, ((("on", 0), ["off", 0])), delay=7)
        self.told(((("on", 3), ("off", 1)), 1), use, (("on", 3), ("off", 2), ("on", 1)), 0, 0)
        self.told(((("on", 4),), 2), use, (("on", 3), ("off", 2), ("on", 3)), 0, 0)
        self.told(((("on", 3), ("off", 2)), 5), use, (("on", 3), ("off", 2), ("on", 0)), 5, 0)
        self.told(((("on", 3), ("on", 4)), 5), use, (("on", 3), ("off", 0), ("on", 4)), 5, 1)
        self.told(((("on", 7),), 5), use, (("on", 3), ("off", 0), ("on", 4)), 5, 0)

    def test_sums_and_paths(self):
        chance = Chance(33)
        self.told((0, 0), trims, ())
        self.told((0,), signed_path, ())
        self.told((0, 2, -1, 3), signed_path, [["on", 2], ["off", 3], ["on", 4]])
        for _ in range(40):
            row = some_row(chance)
            ones = sum(number for kind, number in row if kind == "on")
            zeros = sum(number for kind, number in row if kind == "off")
            self.told((ones, zeros), trims, row)
            path = tuple(sum(n if k == "on" else -n for k, n in row[:at]) for at in range(len(row) + 1))
            self.told(path, signed_path, row)


class TestAlike(Case):
    def check(self, row, delay, other, other_delay):
        same = normal(row, delay=delay) == normal(other, delay=other_delay)
        self.assertIs(alike_rows(row, delay, other, other_delay), same)
        bits = told_by(row, delay, other, other_delay)
        if same:
            self.assertIsNone(bits)
        else:
            self.assertIs(type(bits), tuple)
            self.assertLessEqual(len(bits), 3000)
            self.assertLessEqual(set(bits), {0, 1})
            self.assertNotEqual(row_bits(row, bits, delay=delay), row_bits(other, bits, delay=other_delay))

    def test_short_normal_rows_against_each_other(self):
        # Rows with other normal rows are told apart, so that rows that give the same bits have the same normal row.
        told = {}
        for length in range(5):
            for row in itertools.product(PAIRS, repeat=length):
                told.setdefault(normal(row), row)
        self.assertGreater(len(told), 300)
        chance = Chance(34)
        for row in told.values():
            for other in chance.some(told.values(), 25, 25):
                self.check(row, 0, other, 0)
                self.check(row, normal(other)[1], other, normal(row)[1])

    def test_same_sums(self):
        # Rows of which long ones and long zeros tell nothing.
        chance = Chance(35)
        unlike = 0
        for _ in range(600):
            row, other = some_row(chance, 6, 7), some_row(chance, 6, 7)
            if chance.random.random() < 0.6:
                other = row[:chance.random.randint(0, len(row))] + other[:3]
            delay = chance.random.randint(0, 5)
            other_delay = delay + trims(row)[0] - trims(other)[0]
            if other_delay >= 0:
                self.check(row, delay, other, other_delay)
                sums = trims(row)[1] + delay == trims(other)[1] + other_delay
                unlike += sums and not alike_rows(row, delay, other, other_delay)
        self.assertGreater(unlike, 2)

    def test_largest(self):
        chance = Chance(36)
        numbers = [12, 24, 36, 48, 60, 72, 84, 96]
        for first in ("on", "off"):
            second = "off" if first == "on" else "on"
            row = tuple((first if at % 2 == 0 else second, number + 6) for at, number in enumerate(numbers))
            self.assertEqual(sum(trims(row)), 480)
            self.check(row, 1000, row, 1000)
            self.check(row, 1000, row, 999)
            self.check(row, 1000, row[1:], 1000)
            self.check(row, 1000, (), 1000)
            for at in range(8):
                # One less here and there, with the same sums.
                for to in range(at % 2, 8, 2):
                    other = list(row)
                    other[at] = (row[at][0], row[at][1] - 1)
                    other[to] = (other[to][0], other[to][1] + 1)
                    self.check(row, 1000, tuple(other), 1000)
                    self.check(row, 0, tuple(other), 0)
        for _ in range(40):
            row, other = some_row(chance), some_row(chance)
            self.check(row, chance.random.randint(0, 1000), other, chance.random.randint(0, 1000))
        self.check((("on", 480),), 1000, (("on", 479),), 1000)
        self.check((("off", 480),), 1000, (("off", 479),), 1000)


if __name__ == "__main__":
    unittest.main()
