"""The examples of the document's stages 1 to 5, as they stand there."""

import doctest
import unittest

EXAMPLES = r"""
>>> from guardrungs.formtexts import formula_from, formula_text
>>> formula_text(formula_from(" ( (a)and not(b or rise c) ) "))
'(a and not (b or rise c))'

>>> from guardrungs.decisions import decided, decision
>>> from guardrungs.formtexts import formula_from, formula_text
>>> tree = decision(formula_from("((a and b) or (not a and c))"), ("a", "b", "c"))
>>> (tree, formula_text(decided(tree)))
(('a', ('c', 0, 1), ('b', 0, 1)), '((not a and c) or (a and b))')

>>> from guardrungs.formulas import turned
>>> turned(("or", (("bit", 0), ("not", ("name", "a")))))
('and', (('bit', 1), ('not', ('not', ('name', 'a')))))

>>> from guardrungs.rungtexts import rungs_from
>>> book = rungs_from("rungs\ninputs i\noutputs x\ncells c\n(not c and i) : put x\ni : put c")
>>> book.run([(1,), (1,), (0,), (1,)])
((1,), (0,), (0,), (1,))

>>> from guardrungs.rungs import Rungs
>>> from guardrungs.rungtexts import rungs_text
>>> rungs = ((("name", "i"), (("feed", "t"),)), (("name", "t"), (("count", "u", ""),)), (("name", "u"), (("set", "x"),)))
>>> book = Rungs(("i",), ("x",), (), rungs, timers=(("t", "on", 1),), counters=(("u", 2),))
>>> (book.run([(1,), (1,), (0,), (1,), (1,)]), rungs_text(book))
(((0,), (0,), (0,), (0,), (1,)), 'rungs\ninputs i\noutputs x\ncells\ntimer t on 1\ncounter u 2\ni : feed t\nt : count u\nu : set x')

>>> from guardrungs.frames import count_orders, swaps, touching
>>> frame = ((("i",), "a"), (("a",), "b"), (("i",), "c"))
>>> (touching(frame), swaps(frame, (0, 1, 2), (2, 0, 1)), count_orders(frame))
(((0, 1),), (1, 0), 2)

>>> from guardrungs.sheettexts import sheet_from
>>> sheet = sheet_from("sheet\ninputs i\nt = cell u\nu = odd t i\noutput x u")
>>> (sheet.run([(1,), (0,), (1,)]), sheet.start(), sheet.order, sheet.kept)
(((1,), (1,), (0,)), (0,), (1,), 1)

>>> from guardrungs.sheets import Sheet
>>> from guardrungs.errors import BadBook
>>> try:
...     Sheet(("i",), (("w", "and", ("i", "y"), 0), ("x", "not", ("y",), 0), ("y", "or", ("x", "i"), 0)), (("z", "w"),))
... except BadBook as raised:
...     (raised.word, raised.place)
('ring', 1)

>>> from guardrungs.sheettexts import sheet_from
>>> from guardrungs.unwired import rungs_of_sheet
>>> from guardrungs.versions import sheet_of_rungs
>>> book = rungs_of_sheet(sheet_from("sheet\ninputs i\na = cell i\nb = cell a\noutput x b"))
>>> (book.run([(1,), (0,), (0,), (1,)]), sheet_of_rungs(book).run([(1,), (0,), (0,), (1,)]))
(((0,), (0,), (1,), (0,)), ((0,), (0,), (1,), (0,)))

>>> from guardrungs.chaintexts import chain_from
>>> chain = chain_from("chain\ninputs i\noutputs x\ncells\nsteps a b\nmarked a\nfrom a -> b : i\nfrom b -> a : not i\nshow b x 2 -")
>>> (chain.run([(1,), (1,), (1,), (1,), (0,)]), chain.start(), chain.run_from(chain.start(), [(1,), (1,)])[1])
(((0,), (0,), (1,), (1,), (0,)), (1, 0, -1, 0, 0), (0, 1, 0, 1, 0))

>>> from guardrungs.chaintexts import chain_from
>>> from guardrungs.freechain import doubled_by, marks_reached
>>> chain = chain_from("chain\ninputs\noutputs\ncells\nsteps a b c\nmarked a\nfrom a -> b c : 1\nfrom b -> c : 1")
>>> (marks_reached(chain), doubled_by(chain))
((('a',), ('b', 'c'), ('c',)), ((0,), (1,)))

>>> from guardrungs.chaintexts import chain_from
>>> from guardrungs.lotsofone import covering, is_lot_of_one
>>> chain = chain_from("chain\ninputs\noutputs\ncells\nsteps a b c d\nmarked a c\nfrom a c -> b d : 1\nfrom b -> a : 1\nfrom d -> c : 1")
>>> (len(covering(chain)), is_lot_of_one(chain, ("a", "b")), is_lot_of_one(chain, ("a", "d")))
(2, True, False)

>>> from guardrungs.machines import Machine
>>> rise = Machine.of_rows(1, 1, ((((0,), 0), ((1,), 1)), (((0,), 0), ((0,), 1))))
>>> (rise.run([(1,), (1,), (0,), (1,)]), rise(1, (0,)), len(rise))
(((1,), (0,), (0,), (1,)), ((0,), 0), 2)

>>> from guardrungs.machines import Machine
>>> from guardrungs.least import classes, least, rounds, told_apart
>>> m = Machine.of_rows(1, 1, [[((0,), 0), ((0,), 1)], [((0,), 0), ((0,), 2)], [((0,), 0), ((1,), 2)], [((0,), 0), ((0,), 2)]])
>>> (classes(m), rounds(m), told_apart(m, 0, 1), told_apart(m, 1, 3), len(least(m)))
((0, 1, 2, 1), 2, ((1,), (1,)), None, 3)

>>> from guardrungs.machines import Machine
>>> rise = Machine.of_rows(1, 1, ((((0,), 0), ((1,), 1)), (((0,), 0), ((0,), 1))))
>>> flip = Machine.of_rows(1, 1, ((((0,), 0), ((1,), 1)), (((1,), 1), ((0,), 0))))
>>> both = rise * flip
>>> (both.inputs, both.outputs, both.run([(1,), (1,), (0,), (1,)]), len(both))
(('a.i0',), ('b.o0',), ((1,), (1,), (1,), (0,)), 4)

>>> from guardrungs.machines import Machine, machine_of
>>> from guardrungs.least import least
>>> from guardrungs.formsof import chain_of, rungs_of, sheet_of
>>> rise = Machine.of_rows(1, 1, ((((0,), 0), ((1,), 1)), (((0,), 0), ((0,), 1))))
>>> (sheet_of(rise).kept, least(machine_of(chain_of(rise))) == rise, rungs_of(rise).run([(1,), (1,)]))
(1, True, ((1,), (0,)))
"""


class TestExamples(unittest.TestCase):
    def test_examples(self):
        test = doctest.DocTestParser().get_doctest(EXAMPLES, {}, "examples", None, 0)
        self.assertGreater(len(test.examples), 50)
        told = []
        results = doctest.DocTestRunner(verbose=False).run(test, out=told.append)
        self.assertEqual(results.failed, 0, "".join(told))


if __name__ == "__main__":
    unittest.main()
