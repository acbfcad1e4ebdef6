"""[55]: step chains led into books of rungs."""

import unittest

from guardrungs.chainrungs import chain_cells, rungs_of_chain
from guardrungs.chains import Chain
from guardrungs.chaintexts import chain_from
from guardrungs.least import alike_machines
from guardrungs.machines import machine_of
from guardrungs.versions import sheet_of_rungs
from tests.checks import Case, is_tuples
from tests.plain import Chance, run_chain, run_rungs


class TestChainRungs(Case):
    def test_by_chance(self):
        for number in range(150):
            chance = Chance(number)
            chain = chance.chain(steps=5, transitions=6, actions=7)
            readings = chance.readings(2, 30)
            book, pairs = chain_cells(chain)
            self.assertEqual((book.inputs, book.outputs), (chain.inputs, chain.outputs))
            self.assertEqual(tuple(name for name, _ in pairs), chain.steps + chain.outputs + chain.cells)
            self.assertTrue(is_tuples(pairs) and {name for _, name in pairs} <= set(book.outputs + book.cells))
            answers, shown = run_chain(chain, readings)
            told, bits = run_rungs(book, readings)
            self.assertEqual(told, answers)
            self.assertEqual(book.run(readings), answers)
            for at, (marks, _, names, _) in enumerate(shown):
                for name, other in pairs:
                    wanted = (1 if name in marks else 0) if name in chain.steps else names[name]
                    self.assertEqual(bits[at][other], wanted, (number, at, name))
            other = rungs_of_chain(chain)
            self.assertEqual((other.rungs, other.cells), (book.rungs, book.cells))
            sheet = sheet_of_rungs(book)
            standing = sheet.run_from(sheet.start(), readings[:9])[1]
            self.assertEqual(sheet.run_from(standing, readings[9:])[0], answers[9:])

    def test_by_machines(self):
        for number in range(40):
            chain = Chance(number).chain(steps=3, transitions=3, actions=3, with_edges=number % 2 == 0)
            self.assertTrue(alike_machines(machine_of(chain), machine_of(rungs_of_chain(chain))))

    def test_ages_up_to_16(self):
        text = "chain\ninputs i\noutputs x y z\ncells\nsteps a b\nmarked a\nfrom a -> a : i\nfrom b -> a : i\n" \
               "show a x 15 16\nshow a y 16 -\nshow a z 0 16\nshow a x 3 4"
        chain = chain_from(text)
        readings = [(0,)] * 20 + [(1,)] + [(0,)] * 20
        self.assertEqual(rungs_of_chain(chain).run(readings), chain.run(readings))

    def test_deepest_formula(self):
        formula = ("rise", "i")
        for _ in range(39):
            formula = ("not", formula)
        chain = Chain(("i",), ("x",), ("a", "b"), ("a",), [(("a",), formula, ("b",))], [("set", "b", "x")])
        readings = [(1,), (0,), (1,)]
        self.assertEqual(rungs_of_chain(chain).run(readings), chain.run(readings))

    def test_names_like_those_that_are_made(self):
        text = "chain\ninputs n0 k0\noutputs n1 g0\ncells a0\nsteps k1 g1 a1 n2\nmarked k1\n" \
               "from k1 -> g1 : n0\nfrom g1 -> a1 k1 : rise k0\nshow g1 n1 1 3\nset a1 a0\nreset k1 a0\nset g1 g0"
        chain = chain_from(text)
        readings = Chance(7).readings(2, 30)
        book, pairs = chain_cells(chain)
        self.assertEqual(book.run(readings), chain.run(readings))
        self.assertEqual(len(pairs), 7)


if __name__ == "__main__":
    unittest.main()
