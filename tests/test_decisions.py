"""[4], [6], [7]: decisions, and what a function hangs on."""

import unittest

from guardrungs.decisions import decided, decision, decision_of_bits, first_unlike, hangs_on, same_rows
from guardrungs.errors import BadFormula, BadName, BadRow, TooMany
from guardrungs.formtexts import formula_from, formula_text
from tests.checks import NO_NAMES, Case
from tests.plain import Chance, bit, names, rows

A, B, C = ("name", "a"), ("name", "b"), ("name", "c")
TEN = tuple("abcdefghij")


def of(text):
    return formula_from(text)


def told_plainly(bits, order):
    """The decision by its definition: bits is a dict from rows to bits."""
    if len(set(bits.values())) == 1:
        return list(bits.values())[0]
    low, high = [{row[1:]: told for row, told in bits.items() if row[0] == first} for first in (0, 1)]
    if low == high:
        return told_plainly(low, order[1:])
    return (order[0], told_plainly(low, order[1:]), told_plainly(high, order[1:]))


class TestDecisions(Case):
    def test_example(self):
        tree = self.told(("a", ("c", 0, 1), ("b", 0, 1)), decision, of("((a and b) or (not a and c))"), ("a", "b", "c"))
        self.assertEqual(formula_text(decided(tree)), "((not a and c) or (a and b))")

    def test_constants(self):
        self.told(0, decision, of("(a and not a)"), ["a"])
        self.told(1, decision, of("(a or not a)"), ["b", "a"])
        self.told(1, decision, ("bit", 1), ())
        self.told(0, decision, ("bit", 0), ["x"])

    def test_order_matters(self):
        formula = of("(a or b)")
        self.told(("a", ("b", 0, 1), 1), decision, formula, ("a", "b"))
        self.told(("b", ("a", 0, 1), 1), decision, formula, ("b", "x", "a"))

    def test_by_the_definition(self):
        for number in range(150):
            chance = Chance(number)
            formula = chance.formula(["a", "b", "c", "d"], 4, False)
            order = chance.some(["a", "b", "c", "d"], 4, 4)
            bits = {row: bit(formula, dict(zip(order, row))) for row in rows(4)}
            tree = decision(formula, order)
            self.assertEqual(tree, told_plainly(bits, order))
            self.assertEqual(decision_of_bits([bits[row] for row in rows(4)], order), tree)
            self.assertEqual(decision(decided(tree), order), tree)
            for name in "abcd":
                hangs = f"'{name}'" in str(tree)
                self.assertEqual(hangs_on(formula, name), hangs)

    def test_same_decisions_exactly_for_same_functions(self):
        order = ["a", "b", "c"]
        for number in range(150):
            chance = Chance(number)
            formula, other = chance.formula(order, 3, False), chance.formula(order, 3, False)
            unlike = [row for row in rows(3)
                      if bit(formula, dict(zip(order, row))) != bit(other, dict(zip(order, row)))]
            self.assertEqual(same_rows(formula, other), not unlike)
            self.assertEqual(decision(formula, order) == decision(other, order), not unlike)
            self.assertEqual(first_unlike(formula, other, order), unlike[0] if unlike else None)

    def test_decided_forms(self):
        for tree, text in [
                (0, "0"), (1, "1"), (("a", 0, 1), "a"), (("a", 1, 0), "not a"), (("a", 0, ("b", 1, 0)), "(a and not b)"),
                (("a", ("b", 0, 1), 0), "(not a and b)"), (("a", 1, ("b", 0, 1)), "(not a or b)"),
                (("a", ("b", 0, 1), 1), "(a or b)"), (("a", ("b", 0, 1), ("b", 1, 0)), "((not a and b) or (a and not b))"),
                (("a", ("c", 0, 1), ("b", 0, ("c", 1, 0))), "((not a and c) or (a and (b and not c)))")]:
            self.assertEqual(formula_text(decided(tree)), text)

    def test_ten_names(self):
        chance = Chance(5)
        bits = chance.reading(1024)
        tree = decision_of_bits(bits, TEN)
        formula = decided(tree)
        self.assertEqual(decision(formula, TEN), tree)
        self.assertEqual([bit(formula, dict(zip(TEN, row))) for row in rows(10)[:64]], list(bits[:64]))

    def test_order_is_refused(self):
        calls = [lambda order: decision(("and", (B, A)), order), lambda order: first_unlike(B, A, order)]
        for call in calls + [lambda order: decision_of_bits(None, order)]:
            for value in NO_NAMES:
                self.refused(BadName, {"name": value}, call, ["a", value, "a"])
            self.refused(BadName, {"name": "b"}, call, ["a", "b", "c", "b", "a"])
            # What is no name or has been there goes ahead of what is lacking and of the length.
            self.refused(BadName, {"name": "a"}, call, TEN + ("k", "a"))
        for call in calls:
            self.refused(BadName, {"name": "a"}, call, [])
            self.refused(BadName, {"name": "b"}, call, ("a", "c"))
            self.refused(BadName, {"name": "b"}, call, ("a",) + tuple("cdefghijkl"))
            self.refused(TooMany, {"limit": 10}, call, TEN + ("k",))
        self.refused(TooMany, {"limit": 10}, decision_of_bits, None, TEN + ("k",))

    def test_formulas_ahead_of_the_order(self):
        for wrong in [("rise", "a"), None, ("and", (A, ("fall", "b")))]:
            self.refused(BadFormula, {}, decision, wrong, ["a", "a"])
            self.refused(BadFormula, {}, first_unlike, wrong, A, ["a", "a"])
            self.refused(BadFormula, {}, first_unlike, A, wrong, ["a", "a"])
            self.refused(BadFormula, {}, same_rows, wrong, A)
            self.refused(BadFormula, {}, same_rows, A, wrong)
            self.refused(BadFormula, {}, hangs_on, wrong, "no name")

    def test_bits_are_refused(self):
        self.refused(BadRow, {"place": -1}, decision_of_bits, [0, 1], ["a", "b"])
        self.refused(BadRow, {"place": -1}, decision_of_bits, None, [])
        self.refused(BadRow, {"place": 3}, decision_of_bits, (0, 1, 1, True), ["a", "b"])
        self.told(1, decision_of_bits, [1], ())

    def test_same_rows(self):
        self.told(True, same_rows, of("not (a and b)"), of("(not b or not a)"))
        self.told(True, same_rows, of("(a or not a)"), of("(b or not b)"))
        self.told(False, same_rows, A, B)
        ten = ("and", tuple(("name", name) for name in TEN))
        self.told(True, same_rows, ten, ("not", ("not", ten)))
        self.refused(TooMany, {"limit": 10}, same_rows, ten, ("name", "k"))
        # The limit counts names, whatever the function hangs on.
        self.refused(TooMany, {"limit": 10}, same_rows, ("and", (ten, ("bit", 0))), ("and", (("name", "k"), ("bit", 0))))

    def test_first_unlike(self):
        self.told((0, 1), first_unlike, A, of("(a or b)"), ["a", "b"])
        self.told((1, 0), first_unlike, A, of("(a or b)"), ["b", "a"])
        self.told((0, 0, 1), first_unlike, of("(a or b)"), A, ["c", "a", "b"])
        self.told(None, first_unlike, A, of("not not a"), ["a"])
        self.told((), first_unlike, ("bit", 0), ("bit", 1), ())

    def test_hangs_on(self):
        self.told(True, hangs_on, of("(a and b)"), "a")
        self.told(False, hangs_on, of("((a and b) or (a and not b))"), "b")
        self.told(False, hangs_on, of("(a and b)"), "c")
        for value in NO_NAMES:
            self.refused(BadName, {"name": value}, hangs_on, A, value)
        eleven = ("or", tuple(("name", name) for name in TEN + ("k",)))
        self.refused(TooMany, {"limit": 10}, hangs_on, eleven, "a")
        self.refused(TooMany, {"limit": 10}, hangs_on, eleven, "zz")
        self.refused(BadName, {"name": "zz."}, hangs_on, eleven, "zz.")
        self.told(True, hangs_on, ("or", eleven[1][:10]), "j")


if __name__ == "__main__":
    unittest.main()
