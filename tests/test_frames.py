"""[22] to [25]: frames and their orders."""

import itertools
import unittest

from guardrungs.errors import BadBook, BadFormula, BadNumber, TooMany
from guardrungs.frames import (
    check_frame, count_orders, directions, filled, same_for_all, swaps, telling, touching)
from tests.checks import NO_NAMES, Case
from tests.plain import Chance, rows

FRAME = ((("i",), "a"), (("a",), "b"), (("i",), "c"))


def made(number, many):
    """A frame by chance."""
    chance = Chance(number)
    names = [f"n{k}" for k in range(many)]
    return tuple((tuple(sorted(chance.some(names + ["i", "j"], 0, 3))), name) for name in names)


def plain_touching(frame):
    return tuple((i, j) for i in range(len(frame)) for j in range(i + 1, len(frame))
                 if frame[i][1] in frame[j][0] or frame[j][1] in frame[i][0])


def plain_directions(frame, order):
    return tuple(sorted((i, j) if order.index(i) < order.index(j) else (j, i) for i, j in plain_touching(frame)))


class TestFrames(Case):
    def test_example(self):
        self.told(((0, 1),), touching, FRAME)
        self.told((1, 0), swaps, FRAME, (0, 1, 2), (2, 0, 1))
        self.told(2, count_orders, FRAME)

    def test_check_frame(self):
        for frame in [(), [], FRAME, list(FRAME), [((), "a")], [(("a",), "a")], [(("a", "a0", "b"), "x")]]:
            self.told(None, check_frame, frame)
        for wrong in [None, (("a",),), (("a",), "b", "c"), [("a",), "b"], (["a"], "b"), ("a", "b"), (("b", "a"), "x"),
                      (("a", "a"), "x"), (("a",), None), (("a",), ["b"])]:
            self.refused(BadBook, {"word": "frame", "place": 1}, check_frame, [((), "z"), wrong, None])
        for value in NO_NAMES:
            self.refused(BadBook, {"word": "frame", "place": 1}, check_frame, [((), "z"), (("a",), value)])
            self.refused(BadBook, {"word": "frame", "place": 0}, check_frame, [((value,), "b")])
            self.refused(BadBook, {"word": "frame", "place": 0}, check_frame, [(("a", value), "b")])
        self.refused(BadBook, {"word": "frame", "place": 2}, check_frame, [((), "a"), ((), "b"), ((), "a")])

    def test_eight_and_nine_rungs(self):
        eight = [((), f"n{k}") for k in range(8)]
        self.told(None, check_frame, eight)
        self.told(1, count_orders, eight)
        for call in [check_frame, touching, count_orders]:
            self.refused(TooMany, {"limit": 8}, call, eight + [None])
        self.refused(TooMany, {"limit": 8}, directions, eight + [((), "z")], None)
        self.refused(TooMany, {"limit": 8}, filled, eight + [((), "z")], None, None)

    def test_frame_filling_order_other_in_this_order(self):
        bad = [None]
        told = {"word": "frame", "place": 0}
        for call in [touching, count_orders]:
            self.refused(BadBook, told, call, bad)
        self.refused(BadBook, told, directions, bad, None)
        self.refused(BadBook, told, filled, bad, None, None)
        self.refused(BadFormula, {}, filled, FRAME, None, None)
        for call in [same_for_all, telling, swaps]:
            self.refused(BadBook, told, call, bad, None, None)
            for order in [None, (0, 1), (0, 1, 1), (0, 1, 3), (0, 1, True), "012", (0, 1, 2, 2), ("0", 1, 2)]:
                self.refused(BadNumber, {"word": "order"}, call, FRAME, order, None)
                self.refused(BadNumber, {"word": "other"}, call, FRAME, [0, 1, 2], order)
        for order in [None, (0, 1), (0, 1, 1)]:
            self.refused(BadNumber, {"word": "order"}, directions, FRAME, order)
            self.refused(BadNumber, {"word": "order"}, filled, FRAME, [("bit", 0)] * 3, order)

    def test_filled(self):
        filling = (("not", ("name", "i")), ("name", "a"), ("bit", 1))
        book = filled(FRAME, filling, [2, 0, 1])
        self.assertEqual((book.inputs, book.outputs, book.cells), (("i",), ("a", "b", "c"), ()))
        self.assertEqual(book.rungs, tuple((filling[k], (("put", FRAME[k][1]),)) for k in (2, 0, 1)))
        self.assertEqual(book.run([(0,), (1,)]), ((1, 1, 1), (0, 0, 1)))
        self.assertEqual(filled((), (), ()).rungs, ())
        book = filled([(("z", "zz"), "q"), (("b", "q", "z"), "zz")], [("bit", 0)] * 2, (0, 1))
        self.assertEqual((book.inputs, book.outputs), (("b", "z"), ("q", "zz")))

    def test_filled_refuses(self):
        fine = [("bit", 0), ("name", "a"), ("bit", 1)]
        for filling in [None, (), fine[:2], fine + [("bit", 0)], {0: 1}, "abc"]:
            self.refused(BadFormula, {}, filled, FRAME, filling, (0, 1, 2))
        for wrong in [None, ("rise", "a"), ("name", "i"), ("name", "b"), ("and", (("name", "a"), ("fall", "a"))), ["bit", 0]]:
            self.refused(BadFormula, {}, filled, FRAME, [fine[0], wrong, fine[2]], (0, 1, 2))

    def test_orders(self):
        for number in range(60):
            frame = made(number, 4)
            self.assertEqual(touching(frame), plain_touching(frame))
            orders = list(itertools.permutations(range(4)))
            told = {order: plain_directions(frame, order) for order in orders}
            self.assertEqual(count_orders(frame), len(set(told.values())))
            for order in orders[::5]:
                self.assertEqual(directions(frame, order), told[order])
                for other in orders[::3]:
                    alike = told[order] == told[other]
                    self.assertEqual(same_for_all(frame, order, other), alike)
                    self.look_at(frame, order, other, alike)

    def look_at(self, frame, order, other, alike):
        row, filling = swaps(frame, order, other), telling(frame, order, other)
        if not alike:
            self.assertIsNone(row)
            self.assertIsInstance(filling, tuple)
            books = [filled(frame, filling, order), filled(frame, filling, other)]
            for reading in rows(len(books[0].inputs)):
                self.assertNotEqual(books[0].run([reading]), books[1].run([reading]))
            return
        self.assertIsNone(filling)
        now = list(order)
        for place in row:
            pair = tuple(sorted(now[place:place + 2]))
            self.assertNotIn(pair, plain_touching(frame))
            now[place], now[place + 1] = now[place + 1], now[place]
        self.assertEqual(tuple(now), other)
        unlike = [1 for i, j in itertools.combinations(range(len(frame)), 2)
                  if (order.index(i) < order.index(j)) != (other.index(i) < other.index(j))]
        self.assertEqual(len(row), len(unlike))

    def test_alike_orders_answer_alike(self):
        for number in range(40):
            frame, chance = made(number, 4), Chance(number)
            orders = [tuple(chance.random.sample(range(4), 4)) for _ in range(2)]
            if same_for_all(frame, *orders):
                filling = [chance.formula(reads, 3, False) for reads, _ in frame]
                readings = chance.readings(len(filled(frame, filling, orders[0]).inputs), 12)
                self.assertEqual(*[filled(frame, filling, order).run(readings) for order in orders])

    def test_number_of_orders(self):
        for many in range(1, 9):
            names = tuple(f"n{k}" for k in range(many))
            all_touch = [(names, name) for name in names]
            product = 1
            for factor in range(1, many + 1):
                product *= factor
            self.told(product, count_orders, all_touch)
            self.told(1, count_orders, [((name,), name) for name in names])
            row = [((names[k - 1],) if k else (), names[k]) for k in range(many)]
            self.told(2 ** (many - 1), count_orders, row)
            if many >= 3:
                ring = [((names[k - 1],), names[k]) for k in range(many)]
                self.told(2 ** many - 2, count_orders, ring)
        self.told(1, count_orders, ())

    def test_eight_all_touching(self):
        names = tuple(f"n{k}" for k in range(8))
        frame = [(names, name) for name in names]
        order, other = tuple(range(8)), tuple(range(7, -1, -1))
        self.assertIsNone(swaps(frame, order, other))
        self.assertEqual(len(directions(frame, other)), 28)
        free = [((), name) for name in names]
        self.assertEqual(len(swaps(free, order, other)), 28)


if __name__ == "__main__":
    unittest.main()
