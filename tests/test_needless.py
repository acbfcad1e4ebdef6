"""Needless parts and trimmed books."""

import unittest

from guardrungs.alike import alike
from guardrungs.chains import Chain
from guardrungs.errors import BadNumber, TooMany
from guardrungs.machines import machine_of
from guardrungs.needless import left_out, needless_parts, trimmed
from guardrungs.rungs import Rungs
from guardrungs.sheets import Sheet
from tests.checks import NO_NUMBERS, Case
from tests.plain import Chance


def attributes(book):
    words = {Rungs: "inputs outputs cells rungs timers counters", Sheet: "inputs blocks wiring",
             Chain: "inputs outputs cells steps marked transitions actions"}[type(book)]
    return [getattr(book, word) for word in words.split()]


def parts(book):
    return {Rungs: "rungs", Sheet: "blocks", Chain: "actions"}[type(book)]


def many_parts(book):
    return len(getattr(book, parts(book)))


def plain_left(book, part):
    told = list(getattr(book, parts(book)))
    if isinstance(book, Rungs):
        return book.without(part)
    if isinstance(book, Sheet):
        told[part] = (told[part][0], "zero", (), 0)
        return Sheet(book.inputs, told, book.wiring)
    del told[part]
    return Chain(book.inputs, book.outputs, book.steps, book.marked, book.transitions, told, cells=book.cells)


def plain_needless(book):
    told = []
    for part in range(many_parts(book)):
        if isinstance(book, Sheet) and book.blocks[part][1] == "zero":
            continue
        if alike(book, plain_left(book, part)):
            told.append(part)
    return tuple(told)


def plain_trimmed(book, order):
    """By the words of [94], with the numbers of the first book carried along."""
    numbers = list(range(many_parts(book)))
    whole = list(order) + [part for part in numbers if part not in order]
    while True:
        needless = [numbers[place] for place in plain_needless(book)]
        first = [part for part in whole if part in needless]
        if not first:
            return book
        place = numbers.index(first[0])
        book = plain_left(book, place)
        if not isinstance(book, Sheet):
            del numbers[place]


def some_books(chance):
    return [chance.rungs(rungs=5, inputs=2, cells=1, timers=1, counters=1, deep=2), chance.sheet(blocks=6),
            chance.chain(steps=3, transitions=4, actions=6), chance.rungs(rungs=6, timers=0, counters=0, deep=2)]


class TestNeedless(Case):
    def test_left_out(self):
        chance = Chance(61)
        for _ in range(15):
            for book in some_books(chance):
                for part in range(many_parts(book)):
                    told = left_out(book, part)
                    self.assertIs(type(told), type(book))
                    self.assertEqual(attributes(told), attributes(plain_left(book, part)))
                for wrong in NO_NUMBERS + [-1, many_parts(book)]:
                    self.refused(BadNumber, {"word": "part"}, left_out, book, wrong)

    def test_needless_parts(self):
        chance = Chance(62)
        many = 0
        for _ in range(25):
            for book in some_books(chance):
                wanted = plain_needless(book)
                self.told(wanted, needless_parts, book)
                many += len(wanted)
        self.assertGreater(many, 100)

    def test_trimmed(self):
        chance = Chance(63)
        many = 0
        for _ in range(15):
            for book in some_books(chance):
                before = attributes(book)
                orders = [(), chance.some(range(many_parts(book)), 0, 9), list(reversed(range(many_parts(book))))]
                for order in orders:
                    told = trimmed(book, order)
                    self.assertIs(type(told), type(book))
                    self.assertEqual(attributes(told), attributes(plain_trimmed(book, order)))
                    self.assertTrue(alike(told, book))
                    readings = chance.readings(len(book.inputs), 30)
                    answers, middle = told.run_from(told.start(), readings[:11])
                    self.assertEqual(answers + told.run_from(middle, readings[11:])[0], book.run(readings))
                    self.assertEqual(needless_parts(told), ())
                    many += many_parts(told) < many_parts(book)
                self.assertEqual(attributes(trimmed(book)), attributes(trimmed(book, ())))
                self.assertEqual(attributes(book), before)
        self.assertGreater(many, 20)

    def test_other_orders_leave_other_books(self):
        put = (("name", "i"), (("put", "x"),))
        two = Rungs(("i",), ("x",), (), (put, (("and", (("name", "i"), ("name", "i"))), (("put", "x"),))))
        self.told((0, 1), needless_parts, two)
        self.assertEqual(trimmed(two).rungs, (two.rungs[1],))
        self.assertEqual(trimmed(two, (1,)).rungs, (two.rungs[0],))
        self.assertEqual(trimmed(two, [1, 0]).rungs, (two.rungs[0],))

    def test_a_part_that_is_needless_only_later(self):
        # The first rung is wanted as long as the second one, which undoes it, is there.
        rungs = ((("bit", 1), (("put", "c"),)), (("name", "c"), (("set", "d"),)), (("bit", 1), (("put", "d"),)),
                 (("name", "d"), (("put", "x"),)))
        book = Rungs((), ("x",), ("c", "d"), rungs)
        self.assertEqual(plain_trimmed(book, ()).rungs, trimmed(book).rungs)
        self.assertEqual(plain_trimmed(book, (2,)).rungs, trimmed(book, (2,)).rungs)

    def test_all_parts_needless_and_none(self):
        all_needless = Rungs(("i",), ("x",), ("c",), [(("name", "i"), (("put", "c"),))] * 3)
        self.told((0, 1, 2), needless_parts, all_needless)
        self.assertEqual(trimmed(all_needless).rungs, ())
        none = Rungs(("i",), ("x",), (), ((("name", "i"), (("put", "x"),)),))
        self.told((), needless_parts, none)
        self.assertEqual(trimmed(none).rungs, none.rungs)
        zeros = Sheet((), (("a", "zero", (), 0), ("b", "not", ("a",), 0), ("c", "one", (), 0)), (("x", "a"),))
        self.told((1, 2), needless_parts, zeros)
        self.assertEqual([block[1] for block in trimmed(zeros).blocks], ["zero"] * 3)
        empty = Chain(("i",), ("x",), ("s",), ("s",), (), ())
        self.told((), needless_parts, empty)
        self.assertEqual(attributes(trimmed(empty)), attributes(empty))
        shown = Chain(("i",), ("x",), ("s", "t"), ("s",), (), (("show", "t", "x", 0, None), ("show", "s", "x", 0, None)))
        self.told((0,), needless_parts, shown)
        self.assertEqual(trimmed(shown).actions, shown.actions[1:])

    def test_ages_when_the_action_of_the_greatest_number_goes(self):
        chain = Chain((), ("x", "y"), ("s",), ("s",), (),
                      (("show", "s", "x", 0, 1), ("show", "s", "y", 9, None), ("show", "s", "y", 0, None)))
        self.told((1,), needless_parts, chain)
        self.assertEqual(trimmed(chain).actions, (chain.actions[0], chain.actions[2]))

    def test_wrong(self):
        for book in some_books(Chance(64)):
            many = many_parts(book)
            for wrong in [None, "01", 3, {0: 0}, (many,), (-1,), (0, 0), (0, 1, 0), (0, None), [[0]]]:
                self.refused(BadNumber, {"word": "order"}, trimmed, book, wrong)
            for wrong in NO_NUMBERS:
                self.refused(BadNumber, {"word": "order"}, trimmed, book, (0, wrong))

    def test_limits(self):
        ins = tuple(f"i{k}" for k in range(11))
        rung = (("rise", "i0"), (("put", "x"),))
        for call in (needless_parts, trimmed):
            self.refused(TooMany, {"limit": 10}, call, Rungs(ins, ("x",), (), ()))
            self.refused(TooMany, {"limit": 10}, call, Sheet(ins, (), ()))
        self.refused(TooMany, {"limit": 10}, trimmed, Rungs(ins, ("x",), (), (rung,)), None)
        cells = tuple(f"c{k}" for k in range(11))
        rungs = [(("name", f"i{k}"), (("put", f"c{k}"),)) for k in range(10)] + [(("rise", "i0"), (("put", "c10"),))]
        big = Rungs(ins[:10], ("x",), cells, rungs + [(("fall", "i1"), (("put", "x"),))])
        self.refused(TooMany, {"limit": 2000}, needless_parts, big)
        self.refused(TooMany, {"limit": 2000}, trimmed, big)
        self.refused(BadNumber, {"word": "order"}, trimmed, big, (99,))

    def test_nothing_is_made_where_no_part_is_compared(self):
        wires = [f"b{k}" for k in range(12)]
        many = Chain((), (), tuple(wires), ("b0",), [(("b0",), ("bit", 1), ("b1",))], ())
        self.told((), needless_parts, many)
        zeros = Sheet(tuple(f"i{k}" for k in range(10)), [(w, "zero", (), 0) for w in wires], (("x", "b3"),))
        self.told((), needless_parts, zeros)
        self.assertEqual(attributes(trimmed(zeros)), attributes(zeros))
        # A chain of more than 2000 standings without actions, and with one.
        steps = tuple(f"s{k}" for k in range(12))
        pairs = [((steps[k],), ("name", f"i{k // 2}"), (steps[k ^ 1],)) for k in range(12)]
        rise = [((steps[0],), ("and", tuple(("rise", f"i{k}") for k in range(8))), (steps[0],))]
        ins = tuple(f"i{k}" for k in range(8))
        free = Chain(ins, ("x",), steps, steps[::2], pairs + rise, ())
        self.refused(TooMany, {"limit": 2000}, machine_of, free)
        self.told((), needless_parts, free)
        self.assertEqual(attributes(trimmed(free)), attributes(free))
        told = Chain(ins, ("x",), steps, steps[::2], pairs + rise, (("set", "s0", "x"),))
        self.refused(TooMany, {"limit": 2000}, needless_parts, told)
        self.refused(TooMany, {"limit": 2000}, trimmed, told)

    def test_trimmed_makes_machines_up_to_the_first_needless_part_alone(self):
        # Without the last rung, which keeps the cells at 0, more than 2000 standings are reached.
        ins = tuple(f"i{k}" for k in range(8))
        cells = tuple(f"c{k}" for k in range(6)) + tuple(f"d{k}" for k in range(8))
        rungs = [(("bit", 1), (("put", "e"),)), (("name", "x"), (("put", "x"),))]
        rungs += [(("and", (("name", "e"), ("name", c))), (("put", d),)) for c, d in zip(ins, cells[6:])]
        rungs += [(("and", (("name", "e"), ("name", c))), (("set", d),)) for c, d in zip(ins, cells[:6])]
        rungs += [(("bit", 1), tuple(("reset", c) for c in cells))]
        book = Rungs(ins, ("x",), cells + ("e",), rungs)
        self.assertLess(len(machine_of(book)), 5)
        self.refused(TooMany, {"limit": 2000}, needless_parts, book)
        self.refused(TooMany, {"limit": 2000}, trimmed, book, (len(rungs) - 1,))
        self.assertEqual(trimmed(book).rungs, ())


if __name__ == "__main__":
    unittest.main()
