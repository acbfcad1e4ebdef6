"""[3], [4], [5], [8]: names, formulas, their texts, turned formulas."""

import unittest

from guardrungs.errors import BadFormula, BadName, BadText
from guardrungs.formtexts import formula_from, formula_text
from guardrungs.formulas import (
    all_of, any_of, bit_of, check_formula, edges_of, is_name, is_plain, names_of, turned)
from tests.checks import NO_BITS, NO_NAMES, Case
from tests.plain import Chance, bit, depth, edges, names, rows

A, B, C = ("name", "a"), ("name", "b"), ("name", "c")


def nots(formula, many):
    for _ in range(many):
        formula = ("not", formula)
    return formula


NO_FORMULAS = [
    None, 1, "a", (), ("name",), ("name", "a", "b"), ["name", "a"], ("nam", "a"), ("and", A), ("and", ()), ("or", (A,)),
    ("and", [A, B]), ("not", None), ("not", (A,)), ("and", (A, None)), ("and", (A, ["name", "b"])), ("bit",), (1, 1),
    (None, A), ([], A), ("xor", (A, B)), ("not", A, B), {"name": "a"}, ("rise", A), ("fall", ("name", "a")),
    ("not", "a"), ("or", "ab"), ("NAME", "a"), (("name", "a"),), nots(A, 40), ("and", (A, nots(B, 39))), nots(A, 200),
] + [("bit", value) for value in NO_BITS] + [(kind, value) for kind in ("name", "rise", "fall") for value in NO_NAMES]


class TestNames(Case):
    def test_names(self):
        for value in ["a", "z9", "a.b", "a..b", "rises", "note", "a" * 40, "x" + "." * 38 + "0", "rungs", "nota", "o"]:
            self.assertIs(is_name(value), True, value)

    def test_no_names(self):
        for value in NO_NAMES:
            self.assertIs(is_name(value), False, value)
        for code in range(128):
            sign = chr(code)
            first = "a" <= sign <= "z"
            inside = first or "0" <= sign <= "9" or sign == "."
            self.assertIs(is_name(sign + "a"), first, code)
            self.assertIs(is_name("a" + sign + "a"), inside, code)
            self.assertIs(is_name("a" + sign), inside and sign != ".", code)


class TestFormulas(Case):
    def test_fine_ones(self):
        for formula in [A, ("bit", 0), ("bit", 1), ("rise", "a"), ("fall", "x.1"), ("not", A), ("and", (A, A)),
                        ("or", (A, ("not", B), ("and", (A, ("rise", "c"))))), nots(A, 39), ("and", (A, nots(B, 38)))]:
            self.assertIsNone(check_formula(formula))

    def test_refused_by_all(self):
        calls = [check_formula, is_plain, names_of, edges_of, turned, all_of, any_of, formula_text]
        for formula in NO_FORMULAS:
            for call in calls:
                self.refused(BadFormula, {}, call, formula)
            self.refused(BadFormula, {}, bit_of, formula, {"a": 0, "b": 0, "c": 0})
            self.refused(BadFormula, {}, all_of, A, formula)
            self.refused(BadFormula, {}, any_of, A, B, formula)

    def test_depth_40_and_41(self):
        deep = ("bit", 1)
        for _ in range(19):
            deep = ("and", (A, ("not", deep)))
        self.assertEqual(depth(deep), 39)
        self.assertIsNone(check_formula(("not", deep)))
        self.refused(BadFormula, {}, check_formula, ("not", ("not", deep)))
        self.refused(BadFormula, {}, check_formula, ("or", (A, ("not", deep))))

    def test_is_plain(self):
        self.told(True, is_plain, ("and", (A, ("not", B))))
        self.told(False, is_plain, ("and", (A, ("not", ("rise", "b")))))
        self.told(False, is_plain, ("fall", "a"))
        self.told(True, is_plain, ("bit", 0))

    def test_names_and_edges(self):
        formula = ("or", (("rise", "x"), ("name", "b"), ("not", ("and", (("fall", "b"), ("name", "a10"), ("name", "a2"))))))
        self.told(("a10", "a2", "b", "x"), names_of, formula)
        self.told(("b", "x"), edges_of, formula)
        self.told((), names_of, ("bit", 1))
        self.told((), edges_of, A)

    def test_bit_of(self):
        formula = ("or", (("and", (A, ("not", B))), ("bit", 0)))
        for a, b in rows(2):
            self.told(1 if a and not b else 0, bit_of, formula, {"a": a, "b": b, "more": 7})
        self.told(1, bit_of, ("bit", 1), {})
        for number in range(200):
            formula = Chance(number).formula(["a", "b", "c"], 5, False)
            for row in rows(3):
                bits = dict(zip("abc", row))
                self.assertEqual(bit_of(formula, bits), bit(formula, bits))

    def test_bit_of_refuses(self):
        self.refused(BadName, {"name": "b"}, bit_of, ("and", (C, B)), {"a": 0})
        self.refused(BadName, {"name": "c"}, bit_of, ("and", (C, B)), {"b": 0})
        # Also where the bit could be told without it.
        self.refused(BadName, {"name": "b"}, bit_of, ("and", (("bit", 0), B)), {})
        self.refused(BadFormula, {}, bit_of, ("rise", "a"), {})
        self.refused(BadFormula, {}, bit_of, ("and", (A, ("fall", "a"))), {"a": 1})

    def test_turned(self):
        self.told(("and", (("bit", 1), ("not", ("not", A)))), turned, ("or", (("bit", 0), ("not", A))))
        self.told(("not", A), turned, A)
        self.told(("bit", 0), turned, ("bit", 1))
        for number in range(150):
            formula = Chance(number).formula(["a", "b", "c"], 4, False)
            other = turned(formula)
            for row in rows(3):
                bits = dict(zip("abc", row))
                self.assertEqual(bit(other, bits), 1 - bit(formula, bits))

    def test_turned_refuses(self):
        self.refused(BadFormula, {}, turned, ("rise", "a"))
        self.refused(BadFormula, {}, turned, ("or", (A, ("not", ("fall", "a")))))
        self.refused(BadFormula, {}, turned, nots(A, 39))
        self.told(nots(("bit", 1), 39), turned, nots(("bit", 0), 39))
        self.told(nots(A, 39), turned, nots(A, 38))

    def test_all_of_any_of(self):
        self.told(("bit", 1), all_of)
        self.told(("bit", 0), any_of)
        self.told(A, all_of, A)
        self.told(("rise", "a"), any_of, ("rise", "a"))
        self.told(("and", (A, B, C)), all_of, A, B, C)
        self.told(("or", (A, A)), any_of, A, A)
        self.told(nots(A, 39), all_of, nots(A, 39))
        self.told(("and", (nots(A, 38), B)), all_of, nots(A, 38), B)
        self.refused(BadFormula, {}, all_of, nots(A, 39), B)
        self.refused(BadFormula, {}, any_of, B, nots(A, 39))


class TestTexts(Case):
    FINE = {
        "0": ("bit", 0), "1": ("bit", 1), "a": A, "rise a": ("rise", "a"), "fall a.1": ("fall", "a.1"),
        "not a": ("not", A), "not not rise a": nots(("rise", "a"), 2), "(a and b)": ("and", (A, B)),
        "(a or b or not c)": ("or", (A, B, ("not", C))), "not (a and (b or c))": ("not", ("and", (A, ("or", (B, C))))),
        "((a and b) or 1 or fall c)": ("or", (("and", (A, B)), ("bit", 1), ("fall", "c")))}
    LOOSE = {
        "  a ": A, "(a)": A, "((a))": A, "( ( a and(b)) )": ("and", (A, B)), "not(a)": ("not", A),
        "(not   a   and  b)": ("and", (("not", A), B)), "(rise a)": ("rise", "a"), "rise   a": ("rise", "a"),
        " ( (a)and not(b or rise c) ) ": ("and", (A, ("not", ("or", (B, ("rise", "c")))))),
        "((a and b) and c)": ("and", (("and", (A, B)), C)), "(((0)))": ("bit", 0), "not((a))": ("not", A),
        "(not not(not a))": nots(A, 3)}
    WRONG = [
        "", " ", "()", "a b", "a and b", "(a and b or c)", "(a and)", "(and a)", "(a", "a)", "((a)", "(a))", "not",
        "rise", "rise (a)", "rise(a)", "rise 0", "fall not a", "rise rise", "01", "2", "00", "A", "a_b", "a\tand", "(a\tand b)",
        "a\n", "\na", "(a and\nb)", "(a and b) or c", "(a or b)c", "a(b)", "(a)(b)", "()a", "a.", ".a", "a&b", "not and",
        "(a or or b)", "(a not b)", "(a and b and)", "(a or b and c)", "(not)", "a\u00a0", "\u00e9", "\u0663", "(a or \u00df)",
        "x" * 41, "not a not", "(a)not", "a,b", "a:", "1a", "-1", "(a and b))", "rise a b", "a\r", "(a\x0b)"]

    def test_text(self):
        for text, formula in self.FINE.items():
            self.told(text, formula_text, formula)
            self.told(formula, formula_from, text)

    def test_loose_texts(self):
        for text, formula in self.LOOSE.items():
            self.told(formula, formula_from, text)
            self.assertEqual(formula_from(formula_text(formula)), formula)

    def test_wrong_texts(self):
        for text in self.WRONG:
            raised = self.refused(BadText, {"line": 1}, formula_from, text)
            self.assertIsNone(raised.__cause__, text)
        for value in [None, 1, b"a", ["a"], ("name", "a")]:
            self.refused(BadText, {"line": 0}, formula_from, value)

    def test_depth(self):
        for ahead, behind, many in [("not ", "", 39), ("(a and ", ")", 39)]:
            text = ahead * many + "b" + behind * many
            self.assertEqual(depth(formula_from(text)), 40)
            self.assertEqual(formula_text(formula_from(text)), text)
            for more in (1, 2, 120):
                text = ahead * (many + more) + "b" + behind * (many + more)
                raised = self.refused(BadText, {"line": 1}, formula_from, text)
                self.assertIsInstance(raised.__cause__, BadFormula)
            # Where more than the depth is wrong there is no such cause.
            self.assertIsNone(self.refused(BadText, {"line": 1}, formula_from, text + ")").__cause__)

    def test_depth_of_bits_and_edges(self):
        for text, formula in [("0", ("bit", 0)), ("1", ("bit", 1)), ("rise a", ("rise", "a")), ("fall a", ("fall", "a"))]:
            self.told(nots(formula, 39), formula_from, "not " * 39 + text)
            self.refused(BadText, {"line": 1}, formula_from, "not " * 40 + text)
            self.told(("and", (A, nots(formula, 38))), formula_from, "(a and " + "not " * 38 + text + ")")
            self.refused(BadText, {"line": 1}, formula_from, "(a and " + "not " * 39 + text + ")")

    def test_needless_brackets_have_no_depth(self):
        self.told(A, formula_from, "(" * 200 + "a" + ")" * 200)
        self.told(nots(A, 39), formula_from, "(not " * 39 + "( a )" + ")" * 39)

    def test_there_and_back(self):
        for number in range(300):
            formula = Chance(number).formula(["a", "b.c", "nota", "or1"], 6)
            text = formula_text(formula)
            self.assertEqual(formula_from(text), formula)
            loose = text.replace(" ", "   ").replace("(", " ( ( ").replace(")", " ) )  ")
            self.assertEqual(formula_from(loose), formula)
            self.assertEqual(names_of(formula), tuple(names(formula)))
            self.assertEqual(edges_of(formula), tuple(edges(formula)))
            self.assertEqual(is_plain(formula), not edges(formula))


if __name__ == "__main__":
    unittest.main()
