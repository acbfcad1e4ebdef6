"""[31] to [34], [37]: sheets."""

import unittest

from guardrungs.books import Book
from guardrungs.errors import BadBook, BadRow
from guardrungs.machines import machine_of
from guardrungs.sheets import Sheet, order_of, ring_of
from tests.checks import NO_NAMES, NO_NUMBERS, Case
from tests.plain import Chance, rows, run_sheet


def one(kind, wires, number=0, inputs=("a", "b", "c")):
    """A sheet of one block."""
    return Sheet(inputs, [("w", kind, wires, number)], [("x", "w")])


def is_ring(blocks, ring):
    if not isinstance(ring, tuple) or not ring or len(set(ring)) != len(ring):
        return False
    if any(blocks[place][1] == "cell" for place in ring):
        return False
    return all(blocks[ring[at - 1]][0] in blocks[ring[at]][2] for at in range(len(ring)))


def in_rings(blocks):
    """The places of all direct blocks that are in a ring."""
    reads = {b[0]: [wire for wire in b[2]] for b in blocks if b[1] != "cell"}
    found = []
    for place, block in enumerate(blocks):
        if block[1] == "cell":
            continue
        left, met = list(block[2]), set()
        while left:
            wire = left.pop()
            if wire in reads and wire not in met:
                met.add(wire)
                left.extend(reads[wire])
        if block[0] in met:
            found.append(place)
    return found


class TestBlocks(Case):
    def test_plain_blocks(self):
        for kind, many, work in [
                ("zero", 0, lambda: 0), ("one", 0, lambda: 1), ("not", 1, lambda a: 1 - a), ("and", 2, lambda a, b: a & b),
                ("or", 2, lambda a, b: a | b), ("odd", 2, lambda a, b: a ^ b), ("choose", 3, lambda c, a, b: b if c else a)]:
            names = ("a", "b", "c")[:many]
            sheet = one(kind, names, inputs=names)
            self.assertEqual(sheet.start(), ())
            self.assertEqual(sheet.kept, 0)
            for row in rows(many):
                self.assertEqual(sheet.step((), row), ((work(*row),), ()))

    def test_hold(self):
        sheet = one("hold", ("a", "b"), inputs=("a", "b"))
        self.assertEqual(sheet.start(), (0,))
        self.assertEqual(sheet.kept, 1)
        self.told(((0,), (1,), (1,), (0,), (0,), (0,)), sheet.run, [(0, 0), (1, 0), (0, 0), (1, 1), (0, 0), (0, 1)])
        self.told(((1,), (1,)), sheet.step, (0,), (1, 0))

    def test_timers_and_counters(self):
        sheet = one("on", ("a",), 2, ("a",))
        self.told(((0,), (0,), (1,), (0,)), sheet.run, [(1,), (1,), (1,), (0,)])
        self.told(((0,), (2,)), sheet.step, (1,), (1,))
        self.assertEqual(one("off", ("a",), 3).start(), (3,))
        self.told(((1,), (1,), (0,)), one("pulse", ("a",), 2, ("a",)).run, [(1,), (1,), (1,)])
        sheet = one("count", ("a", "b"), 2, ("a", "b"))
        self.assertEqual(sheet.start(), (0, 0))
        self.told(((0,), (0,), (1,), (0,)), sheet.run, [(1, 0), (0, 0), (1, 0), (1, 1)])
        self.told(((0,), (1, 1)), sheet.step, (0, 0), (1, 0))
        self.assertEqual(sheet.kept, 0)

    def test_cells(self):
        sheet = Sheet(("i",), [("t", "cell", ("u",), 0), ("u", "odd", ("t", "i"), 0)], [("x", "u")])
        self.assertEqual((sheet.start(), sheet.order, sheet.kept), ((0,), (1,), 1))
        self.told(((1,), (1,), (0,)), sheet.run, [(1,), (0,), (1,)])
        # A cell that reads a cell's wire takes the bit that was shown in this cycle.
        for blocks in ([("a", "cell", ("i",), 0), ("b", "cell", ("a",), 0)], [("b", "cell", ("a",), 0), ("a", "cell", ("i",), 0)]):
            sheet = Sheet(("i",), blocks, [("x", "b")])
            self.told(((0,), (0,), (1,), (0,)), sheet.run, [(1,), (0,), (0,), (1,)])
        sheet = Sheet((), [("a", "cell", ("a",), 0)], [("x", "a")])
        self.told(((0,), (0,)), sheet.run, [(), ()])

    def test_standing_in_the_order_of_the_blocks(self):
        blocks = [("p", "count", ("i", "z"), 3), ("z", "zero", (), 0), ("q", "cell", ("i",), 0), ("r", "off", ("i",), 4),
                  ("s", "hold", ("i", "z"), 0)]
        sheet = Sheet(("i",), blocks, [])
        self.told((0, 0, 0, 4, 0), sheet.start)
        self.told(((), (1, 1, 1, 0, 1)), sheet.step, sheet.start(), [1])
        self.assertEqual(sheet.kept, 2)

    def test_several_outputs_of_one_wire(self):
        sheet = Sheet(["i"], [("w", "not", ("i",), 0)], [("x", "w"), ("y", "w"), ("w", "i")])
        self.assertEqual((sheet.inputs, sheet.outputs), (("i",), ("x", "y", "w")))
        self.assertEqual(sheet.wiring, (("x", "w"), ("y", "w"), ("w", "i")))
        self.told(((1, 1, 0),), sheet.run, [(0,)])

    def test_by_chance(self):
        for number in range(150):
            chance = Chance(number)
            sheet = chance.sheet(blocks=9)
            readings = chance.readings(2, 30)
            answers, shown = run_sheet(sheet, readings)
            self.assertEqual(sheet.run(readings), answers)
            standing = sheet.start()
            for bits, reading in zip(shown, readings):
                self.assertEqual(sheet.wires_in(standing, reading), tuple(bits[block[0]] for block in sheet.blocks))
                each = sheet.step_each(standing)
                answer, standing = sheet.step(standing, reading)
                self.assertEqual(each[2 * reading[0] + reading[1]], (answer, standing))
            cut = number % 30
            told, standing = sheet.run_from(sheet.start(), readings[:cut])
            self.assertEqual(told + sheet.run_from(standing, readings[cut:])[0], answers)

    def test_whichever_order(self):
        for number in range(60):
            chance = Chance(number)
            sheet = chance.sheet(blocks=7)
            other, left = [], set(sheet.order)
            direct = {sheet.blocks[place][0]: place for place in sheet.order}
            while left:
                ready = [p for p in left if not any(direct.get(wire, -1) in left for wire in sheet.blocks[p][2])]
                other.append(max(ready))
                left.remove(max(ready))
            readings = chance.readings(2, 20)
            self.assertEqual(run_sheet(sheet, readings, other)[1], run_sheet(sheet, readings)[1])

    def test_wires_in(self):
        sheet = Sheet(("i",), [("t", "cell", ("u",), 0), ("u", "odd", ("t", "i"), 0)], [("x", "u")])
        self.told((1, 0), sheet.wires_in, (1,), [1])
        self.refused(BadRow, {"place": -1}, sheet.wires_in, (0,), (1, 1))
        self.refused(BadRow, {"place": 0}, sheet.wires_in, (0,), (True,))
        self.refused(BadRow, {"place": 0}, sheet.step, (0,), (2,))

    def test_number_of_standings(self):
        for number in range(80):
            sheet = Chance(number).sheet(blocks=8, timed=False)
            self.assertLessEqual(len(machine_of(sheet)), 2 ** sheet.kept)

    def test_is_a_book(self):
        self.assertTrue(issubclass(Sheet, Book))
        sheet = Sheet((), (), ())
        self.assertEqual((sheet.run([(), ()]), sheet.order, sheet.kept), (((), ()), (), 0))


class TestOrders(Case):
    def test_order_of(self):
        blocks = [("w", "and", ("v", "i"), 0), ("c", "cell", ("w",), 0), ("v", "not", ("c",), 0), ("z", "one", (), 0)]
        self.told((2, 0, 3), order_of, ["i"], blocks)
        self.told((), order_of, (), ())
        self.assertEqual(Sheet(["i"], blocks, []).order, (2, 0, 3))

    def test_least_place_first(self):
        for number in range(80):
            sheet = Chance(number).sheet(blocks=9)
            direct = {b[0]: place for place, b in enumerate(sheet.blocks) if b[1] != "cell"}
            order, done = [], set()
            while len(order) < len(direct):
                ready = [place for place in direct.values() if place not in done
                         and all(direct[wire] in done for wire in sheet.blocks[place][2] if wire in direct)]
                order.append(min(ready))
                done.add(min(ready))
            self.assertEqual(sheet.order, tuple(order))

    def test_example_ring(self):
        blocks = (("w", "and", ("i", "y"), 0), ("x", "not", ("y",), 0), ("y", "or", ("x", "i"), 0))
        self.refused(BadBook, {"word": "ring", "place": 1}, Sheet, ("i",), blocks, (("z", "w"),))
        self.told(None, order_of, ("i",), blocks)
        self.assertIn(ring_of(("i",), blocks), [(1, 2), (2, 1)])

    def test_ring_of_one(self):
        for kind, wires in [("not", ("w",)), ("hold", ("w", "i")), ("on", ("w",)), ("count", ("i", "w"))]:
            number = 1 if kind in ("on", "count") else 0
            self.told((0,), ring_of, ("i",), [("w", kind, wires, number)])
            self.refused(BadBook, {"word": "ring", "place": 0}, one, kind, wires, number, ("i",))
        self.told(None, ring_of, ("i",), [("w", "cell", ("w",), 0)])

    def test_rings_by_chance(self):
        rings = 0
        for number in range(400):
            chance = Chance(number)
            names = ["i"] + [f"w{k}" for k in range(7)]
            blocks = []
            for name in names[1:]:
                kind, many = chance.pick([("not", 1), ("and", 2), ("cell", 1), ("hold", 2), ("one", 0)])
                blocks.append((name, kind, tuple(chance.pick(names) for _ in range(many)), 0))
            ring, wanted = ring_of(["i"], blocks), in_rings(blocks)
            if not wanted:
                self.assertIsNone(ring)
                self.assertIsNotNone(order_of(["i"], blocks))
                Sheet(["i"], blocks, [])
                continue
            rings += 1
            self.assertTrue(is_ring(blocks, ring), (blocks, ring))
            self.assertIsNone(order_of(["i"], blocks))
            self.refused(BadBook, {"word": "ring", "place": wanted[0]}, Sheet, ["i"], blocks, [])
        self.assertGreater(rings, 50)

    def test_behind_a_ring_is_not_in_it(self):
        blocks = [("a", "not", ("b",), 0), ("b", "and", ("c", "d"), 0), ("c", "not", ("d",), 0), ("d", "not", ("c",), 0),
                  ("e", "not", ("f",), 0), ("f", "not", ("e",), 0)]
        self.refused(BadBook, {"word": "ring", "place": 2}, Sheet, (), blocks, ())
        # Between two rings.
        blocks = [("m", "and", ("c", "c"), 0), ("c", "not", ("c",), 0), ("e", "and", ("m", "e"), 0)]
        self.refused(BadBook, {"word": "ring", "place": 1}, Sheet, (), blocks, ())

    def test_long_row_of_blocks(self):
        blocks = [(f"w{k}", "not", (f"w{k + 1}",), 0) for k in range(3000)] + [("w3000", "zero", (), 0)]
        sheet = Sheet((), blocks, [("x", "w0")])
        self.assertEqual(sheet.order, tuple(range(3000, -1, -1)))
        self.assertEqual(sheet.run([()]), ((0,),))


class TestRefused(Case):
    def test_copies(self):
        inputs, blocks, outputs = ["i"], [("w", "not", ("i",), 0)], [("x", "w")]
        sheet = Sheet(inputs, blocks, outputs)
        for part in (inputs, blocks, outputs):
            part.clear()
        self.assertEqual((sheet.inputs, sheet.blocks, sheet.wiring, sheet.outputs),
                         (("i",), (("w", "not", ("i",), 0),), (("x", "w"),), ("x",)))

    def test_names(self):
        for value in NO_NAMES:
            self.refused(BadBook, {"word": "name", "place": 1}, Sheet, ["i", value], [None], [None])
            self.refused(BadBook, {"word": "name", "place": 1}, Sheet, ["i"], [(value, "one", (), 0)], [])
        for block in [None, ("w", "one", ()), ("w", "one", (), 0, 0), ["w", "one", (), 0], "wone", ()]:
            self.refused(BadBook, {"word": "name", "place": 2}, Sheet, ["i"], [("v", "no", (), 0), block], [None])
        for wire, place in [("i", 2), ("v", 2)]:
            self.refused(BadBook, {"word": "name", "place": place}, Sheet, ["i"], [("v", "one", (), 0), (wire, "one", (), 0)], [])
        self.refused(BadBook, {"word": "name", "place": 1}, Sheet, ["i", "i"], [], [])

    def test_blocks(self):
        for block in [
                ("", (), 0), ("nand", ("i", "i"), 0), (None, (), 0), (["and"], ("i", "i"), 0), ("and", ("i",), 0),
                ("and", ("i", "i", "i"), 0), ("and", ["i", "i"], 0), ("and", "ii", 0), ("and", ("i", "z"), 0),
                ("and", ("i", None), 0), ("and", ("i", ["i"]), 0), ("one", ("i",), 0), ("zero", None, 0), ("not", (), 0),
                ("choose", ("i", "i"), 0), ("hold", ("i",), 0), ("cell", (), 0), ("cell", ("i", "i"), 0), ("count", ("i",), 1),
                ("on", ("i", "i"), 1), ("and", ("i", "i"), 1), ("one", (), -1), ("cell", ("i",), 2), ("hold", ("i", "i"), 1),
                ("on", ("i",), 17), ("on", ("i",), -1), ("off", ("i",), 17), ("pulse", ("i",), 0), ("pulse", ("i",), 17),
                ("count", ("i", "i"), 0), ("count", ("i", "i"), 17), ("not", ("x",), 0), ("One", (), 0)]:
            blocks = [("v", "one", (), 0), ("w",) + block, ("u", None, None, None)]
            self.refused(BadBook, {"word": "block", "place": 1}, Sheet, ["i"], blocks, [("x", "v"), None])
        for number in NO_NUMBERS:
            for kind, many in [("one", 0), ("cell", 1), ("on", 1), ("off", 1), ("pulse", 1), ("count", 2)]:
                blocks = [("w", kind, ("i",) * many, number)]
                self.refused(BadBook, {"word": "block", "place": 0}, Sheet, ["i"], blocks, [])
        for kind, many, number in [("on", 1, 0), ("on", 1, 16), ("off", 1, 0), ("off", 1, 16), ("pulse", 1, 1),
                                   ("pulse", 1, 16), ("count", 2, 1), ("count", 2, 16)]:
            one(kind, ("a",) * many, number)

    def test_outputs(self):
        blocks = [("w", "one", (), 0)]
        for output in [None, ("x",), ("x", "w", "w"), ["x", "w"], "xw", ("x", "z"), ("x", None), ("x", ["w"]), ("i", "w"), ("y", "w")]:
            self.refused(BadBook, {"word": "output", "place": 1}, Sheet, ["i"], blocks, [("y", "w"), output, None])
        for value in NO_NAMES:
            self.refused(BadBook, {"word": "output", "place": 1}, Sheet, ["i"], blocks, [("y", "w"), (value, "w")])
        # An earlier wrong place goes ahead, of whatever sort it is.
        self.refused(BadBook, {"word": "output", "place": 0}, Sheet, ["i"], blocks, [("i", "w"), None])
        self.refused(BadBook, {"word": "output", "place": 0}, Sheet, ["i"], blocks, [None, ("i", "w")])

    def test_each_word_ahead_of_the_next(self):
        ring = [("w", "not", ("w",), 0)]
        self.refused(BadBook, {"word": "output", "place": 0}, Sheet, ["i"], ring, [None])
        self.refused(BadBook, {"word": "block", "place": 1}, Sheet, ["i"], ring + [("v", "no", (), 0)], [None])
        self.refused(BadBook, {"word": "name", "place": 2}, Sheet, ["i"], [("v", "no", (), 0), ("v", "one", (), 0)], [None])


if __name__ == "__main__":
    unittest.main()
