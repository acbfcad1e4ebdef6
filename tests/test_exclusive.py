"""[54]: transitions that overlap, and the exclusive chain."""

import itertools
import unittest

from guardrungs.chains import Chain
from guardrungs.errors import BadFormula, TooMany
from guardrungs.exclusive import exclusive, overlap
from guardrungs.formulas import is_plain
from tests.checks import Case
from tests.plain import Chance, bit, depth, names, rows, run_chain

ONE = ("bit", 1)


def nots(formula, many):
    for _ in range(many):
        formula = ("not", formula)
    return formula


def of(steps, parts, inputs=("i", "j", "k")):
    return Chain(inputs, (), steps.split(), steps.split()[:1], parts, ())


def overlaps(chain, i, j):
    froms, formula, _ = chain.transitions[i]
    others, other, _ = chain.transitions[j]
    if not set(froms) & set(others):
        return False
    told = sorted(set(names(formula)) | set(names(other)))
    for row in rows(len(told)):
        bits = dict(zip(told, row))
        bits.update({step: 1 for step in froms + others})
        if bit(formula, bits) and bit(other, bits):
            return True
    return False


def shut_formulas(chain, bits):
    """The bits of the exclusive chain's formulas, word by word."""
    told = []
    for j, (froms, formula, _) in enumerate(chain.transitions):
        value = bit(formula, bits)
        for i in range(j):
            others = chain.transitions[i][0]
            if set(froms) & set(others) and all(bits[step] for step in others) and told[i]:
                value = 0
        told.append(value)
    return told


class TestOverlap(Case):
    def test_by_chance(self):
        none = 0
        for number in range(150):
            chain = Chance(number).chain(steps=3, transitions=4, with_edges=False)
            pairs = [pair for pair in itertools.combinations(range(4), 2) if overlaps(chain, *pair)]
            none += not pairs
            self.told(pairs[0] if pairs else None, overlap, chain)
        self.assertGreater(none, 5)

    def test_from_steps_are_1(self):
        # Of both transitions, also those that are not common.
        chain = of("a b c", [(("a", "b"), ONE, ("c",)), (("a",), ("not", ("name", "b")), ("c",))])
        self.told(None, overlap, chain)
        chain = of("a b c", [(("a",), ("name", "c"), ("c",)), (("a",), ("not", ("name", "a")), ("c",)), (("a", "b"), ONE, ("c",))])
        self.told((0, 2), overlap, chain)

    def test_first_and_last_choice(self):
        for formula in [("not", ("name", "i")), ("name", "i"), ("and", (("not", ("name", "i")), ("not", ("name", "j"))))]:
            self.told((0, 1), overlap, of("a b", [(("a",), formula, ("b",))] * 2))
            self.told(None, overlap, of("a b", [(("a",), formula, ("b",)), (("a",), ("not", formula), ("b",))]))

    def test_without_a_common_step(self):
        self.told(None, overlap, of("a b", [(("a",), ONE, ("b",)), (("b",), ONE, ("a",))]))

    def test_refused(self):
        edge = (("c",), ("and", (("name", "i"), ("rise", "i"))), ("c",))
        self.refused(BadFormula, {}, overlap, of("a b c", [(("a",), ONE, ("b",)), (("a",), ONE, ("b",)), edge]))

    def test_ten_and_eleven_names(self):
        inputs = tuple(f"i{k}" for k in range(12))

        def both(many, *more):
            half = [("name", name) for name in inputs[:many]]
            first = ("and", tuple(half[:5] + [("name", step) for step in more]))
            return of("a b", [(("a",), first, ("b",)), (("a",), ("or", tuple(half[5:] + half[:1])), ("b",))], inputs)
        self.told((0, 1), overlap, both(10))
        self.refused(TooMany, {"limit": 10}, overlap, both(11))
        # From steps that stand in a formula are counted, others are not.
        self.refused(TooMany, {"limit": 10}, overlap, both(10, "a"))
        self.told((0, 1), overlap, both(9, "a"))
        # Whatever the answer would be: an earlier pair overlaps.
        parts = [(("b",), ONE, ("a",)), (("b",), ONE, ("a",))] + list(both(11).transitions)
        self.refused(TooMany, {"limit": 10}, overlap, of("a b", parts, inputs))
        # Two with many names, but without a common step.
        parts = [(("a",), both(11).transitions[0][1], ("b",)), (("b",), both(11).transitions[1][1], ("a",))]
        self.told(None, overlap, of("a b", parts, inputs))
        # Formulas that are not plain go ahead.
        parts = list(both(11).transitions) + [(("b",), ("fall", "i0"), ("a",))]
        self.refused(BadFormula, {}, overlap, of("a b", parts, inputs))


class TestExclusive(Case):
    def test_by_chance(self):
        for number in range(100):
            chance = Chance(number)
            chain = chance.chain(steps=4, transitions=5, with_edges=False)
            other = exclusive(chain)
            for name in ("inputs", "outputs", "cells", "steps", "marked", "actions"):
                self.assertEqual(getattr(other, name), getattr(chain, name))
            for old, new in zip(chain.transitions, other.transitions):
                self.assertEqual((new[0], new[2]), (old[0], old[2]))
                self.assertTrue(is_plain(new[1]))
            known = list(chain.inputs + chain.outputs + chain.cells + chain.steps)
            for _ in range(30):
                bits = dict(zip(known, chance.reading(len(known))))
                self.assertEqual([bit(part[1], bits) for part in other.transitions], shut_formulas(chain, bits))
            for i, j in itertools.combinations(range(5), 2):
                self.assertFalse(overlaps(other, i, j))
            readings = chance.readings(2, 25)
            self.assertEqual(run_chain(other, readings), run_chain(chain, readings))
            self.assertEqual(other.run(readings), chain.run(readings))

    def test_any_order_without_overlaps(self):
        for number in range(60):
            chance = Chance(number)
            chain = exclusive(chance.chain(steps=4, transitions=4, with_edges=False))
            readings = chance.readings(2, 20)
            told = [shown[:3] for shown in run_chain(chain, readings)[1]]
            for order in list(itertools.permutations(range(4)))[::5]:
                other = chain.in_order(order)
                self.assertEqual(other.run(readings), chain.run(readings))
                self.assertEqual([shown[:3] for shown in run_chain(other, readings)[1]], told)

    def test_overlap_of_the_exclusive_chain(self):
        parts = [(("a",), ("name", name), ("b",)) for name in ("i", "j", "k")]
        chain = of("a b", parts)
        self.told((0, 1), overlap, chain)
        self.told(None, overlap, exclusive(chain))

    def test_heights_six_and_seven(self):
        def tower(many):
            return of("a b", [(("a",), ("name", "i"), ("b",)) for _ in range(many)])
        self.assertEqual(len(exclusive(tower(7)).transitions), 7)
        self.refused(TooMany, {"limit": 6}, exclusive, tower(8))
        # Heights, not transitions, are counted.
        flat = of("a b", [(("a",), ONE, ("b",)), (("b",), ONE, ("a",))] * 3 + [(("a",), ONE, ("b",))] * 4)
        self.assertEqual(len(exclusive(flat).transitions), 10)
        row = of(" ".join(f"s{k}" for k in range(9)), [((f"s{k}", f"s{k + 1}"), ONE, ("s0",)) for k in range(8)])
        self.refused(TooMany, {"limit": 6}, exclusive, row)
        self.assertEqual(len(exclusive(row.in_order([0, 2, 4, 6, 1, 3, 5, 7])).transitions), 8)

    def test_depth_20_and_21(self):
        deep = nots(("name", "i"), 19)
        chain = of("a b", [(("a",), deep, ("b",)) for _ in range(7)])
        self.assertEqual(depth(deep), 20)
        for (_, formula, _), bits in itertools.product(exclusive(chain).transitions, [{"a": 1, "i": 0, "b": 0}]):
            self.assertLessEqual(depth(formula), 40)
        chain = of("a b", [(("a",), deep, ("b",)), (("b",), ("not", deep), ("a",))])
        self.refused(BadFormula, {}, exclusive, chain)
        self.told(None, overlap, chain)

    def test_refused_in_order(self):
        parts = [(("a",), ("name", "i"), ("b",))] * 8
        self.refused(BadFormula, {}, exclusive, of("a b", parts + [(("b",), ("rise", "i"), ("a",))]))
        self.refused(BadFormula, {}, exclusive, of("a b", parts + [(("b",), nots(ONE, 20), ("a",))]))
        self.assertEqual(exclusive(of("a", [])).transitions, ())


if __name__ == "__main__":
    unittest.main()
