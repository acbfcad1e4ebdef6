"""[46] to [50]: step chains."""

import unittest

from guardrungs.books import Book
from guardrungs.chains import Chain, free
from guardrungs.chaintexts import chain_from
from guardrungs.errors import BadBook, BadNumber, BadRow
from tests.checks import NO_NAMES, NO_NUMBERS, Case
from tests.plain import Chance, run_chain

ONE, I = ("bit", 1), ("name", "i")


def chain(transitions=(), actions=(), steps=("a", "b", "c"), marked=("a",), inputs=("i",), outputs=("x", "y"), cells=("d",)):
    return Chain(inputs, outputs, steps, marked, transitions, actions, cells=cells)


def go(froms, tos, formula=ONE):
    return (tuple(froms), formula, tuple(tos))


class TestCycle(Case):
    def test_example(self):
        book = chain_from("chain\ninputs i\noutputs x\ncells\nsteps a b\nmarked a\nfrom a -> b : i\nfrom b -> a : not i\nshow b x 2 -")
        self.told(((0,), (0,), (1,), (1,), (0,)), book.run, [(1,), (1,), (1,), (1,), (0,)])
        self.told((1, 0, -1, 0, 0), book.start)
        self.told((0, 1, 0, 1, 0), lambda: book.run_from(book.start(), [(1,), (1,)])[1])

    def test_one_step_a_cycle(self):
        # A step that is given in this cycle is not yet marked for the transitions of it.
        book = chain([go("a", "b"), go("b", "c")])
        standing = book.step(book.start(), (0,))[1]
        self.told(("b",), book.marks_in, standing)
        self.told((0,), book.fired_in, book.start(), (0,))
        self.told((1,), book.fired_in, standing, [0])

    def test_taken_steps_are_taken_once(self):
        book = chain([go("ab", "c"), go("b", "b"), go("a", "a", I)], marked=("b", "a"))
        self.told((0,), book.fired_in, book.start(), (1,))
        book = chain([go("a", "b", I), go("a", "c")])
        self.told((0,), book.fired_in, book.start(), (1,))
        self.told((1,), book.fired_in, book.start(), (0,))

    def test_taken_and_given(self):
        book = chain([go("a", "a", I)], [("show", "a", "x", 1, None)])
        self.told(((0, 0), (1, 0), (0, 0), (1, 0)), book.run, [(0,), (0,), (1,), (0,)])
        self.told((1, 0, 0, 0, 0, 0, 0, 0, 0), lambda: book.step(book.start(), (1,))[1])

    def test_given_while_marked(self):
        book = chain([go("b", "a")], [("show", "a", "x", 2, None)], marked=("a", "b"))
        standing = book.step(book.start(), (0,))[1]
        self.told((1, 0, 0, 0, 0, 0, 0, 0, 0), lambda: standing)
        self.told(((0, 0), (1, 0, 0, 1, 0, 0, 0, 0, 0)), book.step, standing, (0,))

    def test_ages_stop_at_the_greatest_number(self):
        book = chain([], [("show", "b", "x", 0, 3)])
        ages = [book.run_from(book.start(), [(0,)] * many)[1][3] for many in range(7)]
        self.assertEqual(ages, [-1, 0, 1, 2, 3, 3, 3])
        book = chain([], [("set", "a", "x")])
        self.assertEqual([book.run_from(book.start(), [(0,)] * many)[1][3] for many in range(3)], [-1, 0, 0])
        book = chain([], [("show", "a", "x", 16, None)])
        self.assertEqual([answer[0] for answer in book.run([(0,)] * 18)], [0] * 16 + [1, 1])

    def test_show_from_till(self):
        book = chain([], [("show", "a", "x", 1, 3), ("show", "a", "x", 4, 5), ("show", "a", "y", 0, 1)])
        self.told(((0, 1), (1, 0), (1, 0), (0, 0), (1, 0), (0, 0)), book.run, [(0,)] * 6)

    def test_set_and_reset(self):
        book = chain([go("a", "b", I), go("b", "c", I)], [("reset", "b", "x"), ("set", "a", "x"), ("set", "b", "y"), ("set", "c", "d")])
        self.told(((1, 0), (0, 1), (0, 1), (0, 1)), book.run, [(0,), (1,), (0,), (1,)])
        # Reset goes behind set.
        book = chain([], [("reset", "a", "x"), ("set", "a", "x"), ("set", "a", "y")])
        self.told(((0, 1),), book.run, [(0,)])

    def test_formulas_see_the_last_cycle(self):
        book = chain([go("a", "b", ("name", "x")), go("b", "a", ("name", "b"))], [("show", "a", "x", 0, None)])
        self.told(((1, 0), (0, 0), (1, 0)), book.run, [(0,)] * 3)
        # A step's bit is seen as marked at the start, in the first cycle already.
        book = chain([go("a", "b", ("name", "a"))])
        self.told((0,), book.fired_in, book.start(), (0,))

    def test_edges_are_looked_at_whether_it_can_fire_or_not(self):
        book = chain([go("a", "b", ("rise", "i")), go("b", "c", ("rise", "i")), go("c", "a", ("fall", "b"))], [("show", "c", "x", 0, None)])
        self.assertEqual(book.start(), (1, 0, 0, -1, 0, 0, 0, 0, 0, 0, 0, 0))
        self.told(((0, 0), (0, 0), (0, 0), (1, 0), (0, 0)), book.run, [(1,), (1,), (0,), (1,), (0,)])
        self.told((0, 1, 0, 0, 0, 0, 0, 0, 0, 1, 1, 0), lambda: book.step(book.start(), (1,))[1])

    def test_seen_bits_ascending_by_name(self):
        formula = ("or", (("rise", "x"), ("fall", "a"), ("rise", "i"), ("fall", "a")))
        book = chain([go("b", "c", formula)], [("show", "a", "x", 0, None)])
        self.told((1, 0, 0, 0, 0, 0, 1, 0, 0, 1, 0, 0), lambda: book.step(book.start(), (0,))[1])
        self.told((1, 0, 0, 0, 0, 0, 1, 0, 0, 1, 1, 1), lambda: book.run_from(book.start(), [(0,), (1,)])[1])

    def test_cells_and_names_without_actions(self):
        book = chain([go("a", "b", ("name", "d"))], [("set", "a", "d")])
        self.told(((0, 0), (0, 0)), book.run, [(0,), (0,)])
        self.told((0, 1, 0, 0, 0, 0, 0, 0, 1), lambda: book.run_from(book.start(), [(0,), (0,)])[1])

    def test_by_chance(self):
        for number in range(200):
            chance = Chance(number)
            book = chance.chain(steps=5, transitions=6, actions=6)
            readings = chance.readings(2, 30)
            answers, shown = run_chain(book, readings)
            self.assertEqual(book.run(readings), answers)
            standing = book.start()
            for reading, (marks, ages, bits, fired) in zip(readings, shown):
                self.assertEqual(book.fired_in(standing, reading), fired)
                each = book.step_each(standing)
                answer, standing = book.step(standing, reading)
                self.assertEqual(each[2 * reading[0] + reading[1]], (answer, standing))
                self.assertEqual(book.marks_in(standing), tuple(step for step in book.steps if step in marks))
                self.assertEqual(standing[5:10], tuple(ages.get(step, 0) for step in book.steps))
                self.assertEqual(standing[10:13], tuple(bits[name] for name in book.outputs + book.cells))
            told, standing = book.run_from(book.start(), readings[:17])
            self.assertEqual(told + book.run_from(standing, readings[17:])[0], answers)

    def test_wrong_readings(self):
        book = chain()
        for call in (book.step, book.fired_in):
            self.refused(BadRow, {"place": -1}, call, book.start(), ())
            self.refused(BadRow, {"place": 0}, call, book.start(), [False])
        self.assertTrue(issubclass(Chain, Book))


class TestParts(Case):
    def test_in_order(self):
        parts = [go("a", "b", I), go("a", "c"), go("b", "c")]
        book = chain(parts, [("set", "a", "x")])
        other = book.in_order((2, 0, 1))
        self.assertEqual(other.transitions, (parts[2], parts[0], parts[1]))
        self.assertEqual((other.actions, other.cells, other.marked), (book.actions, book.cells, book.marked))
        for order in [None, (0, 1), (0, 1, 1), (0, 1, 3), (0, 1, True), "012", (0, 1, 2, 2), (-1, 0, 1)]:
            self.refused(BadNumber, {"word": "order"}, book.in_order, order)

    def test_free(self):
        book = free(chain([go("a", "b", ("rise", "i")), go("ab", "c")], [("set", "a", "x")]))
        self.assertEqual((book.inputs, book.outputs, book.cells, book.actions), (("t0", "t1"), (), (), ()))
        self.assertEqual((book.steps, book.marked), (("a", "b", "c"), ("a",)))
        self.assertEqual(book.transitions, (go("a", "b", ("name", "t0")), go("ab", "c", ("name", "t1"))))

    def test_marks_in(self):
        book = chain(marked=("c", "a"))
        self.told(("a", "c"), book.marks_in, book.start())
        self.assertEqual(book.marked, ("c", "a"))


class TestRefused(Case):
    def test_copies(self):
        parts = [["i"], ["x"], ["a", "b"], ["a"], [go("a", "b")], [("set", "a", "x")], ["d"]]
        book = Chain(*parts[:6], cells=parts[6])
        told = [book.inputs, book.outputs, book.steps, book.marked, book.transitions, book.actions, book.cells]
        self.assertEqual(told, [tuple(part) for part in parts])
        for part in parts:
            part.clear()
        self.assertEqual(book.run([(0,)]), ((0,),))
        self.assertEqual(book.transitions, (go("a", "b"),))

    def test_names(self):
        for value in NO_NAMES:
            self.refused(BadBook, {"word": "name", "place": 0}, chain, [None], [None], inputs=[value])
            self.refused(BadBook, {"word": "name", "place": 3}, chain, [None], cells=[value])
            self.refused(BadBook, {"word": "name", "place": 5}, chain, steps=["a", value], marked=())
        for steps, place in [(("a", "a"), 5), (("x",), 4), (("i",), 4), (("b", "d"), 5)]:
            self.refused(BadBook, {"word": "name", "place": place}, chain, steps=steps)
        # Inputs, outputs, cells, steps is the row in which the places count.
        self.refused(BadBook, {"word": "name", "place": 3}, chain, cells=["y"])

    def test_marked(self):
        self.refused(BadBook, {"word": "marked", "place": -1}, chain, [None], marked=())
        self.refused(BadBook, {"word": "marked", "place": -1}, chain, [None], marked=[])
        self.refused(BadBook, {"word": "marked", "place": -1}, chain, steps=(), marked=())
        for wrong in ["x", "z", "i", "d", None, ["a"], ("a",), "", "a", 1]:
            self.refused(BadBook, {"word": "marked", "place": 1}, chain, [None], marked=("a", wrong, "z"))

    def test_transitions(self):
        deep = ONE
        for _ in range(40):
            deep = ("not", deep)
        for wrong in [None, (("a",), ONE), (("a",), ONE, ("b",), 0), [("a",), ONE, ("b",)], ((), ONE, ("b",)), (("a",), ONE, ()),
                      (("a", "a"), ONE, ("b",)), (("a",), ONE, ("b", "b")), (["a"], ONE, ("b",)), (("a",), ONE, ["b"]),
                      (("x",), ONE, ("b",)), (("a",), ONE, ("z",)), (("a",), ONE, ("i",)), (("a",), None, ("b",)),
                      (("a",), ("name", "z"), ("b",)), (("a",), ("rise", "z"), ("b",)), (("a",), deep, ("b",)), ("a", ONE, "b"),
                      ((None,), ONE, ("b",)), ((["a"],), ONE, ("b",)), (("a",), "i", ("b",))]:
            told = {"word": "transition", "place": 1}
            self.refused(BadBook, told, chain, [go("a", "b"), wrong, None], [None])
        chain([go("abc", "abc", ("and", (("name", "a"), ("rise", "x"), ("fall", "d"), I)))])

    def test_actions(self):
        for wrong in [None, (), ("set",), ("set", "a"), ("set", "a", "x", 0), ["set", "a", "x"], ("set", "x", "x"), ("set", "z", "x"),
                      ("set", "a", "i"), ("set", "a", "a"), ("set", "a", "z"), ("set", "a", None), ("set", ["a"], "x"), ("set", "a", ["x"]),
                      ("put", "a", "x"), (None, "a", "x"), ("reset", "a", "x", None), ("show", "a", "x"), ("show", "a", "x", 0),
                      ("show", "a", "x", 0, None, 0), ("show", "a", "x", -1, None), ("show", "a", "x", 17, None),
                      ("show", "a", "x", 0, 0), ("show", "a", "x", 3, 3), ("show", "a", "x", 3, 2), ("show", "a", "x", 0, 17),
                      ("show", "a", "x", 16, 16), ("show", "a", "x", None, 3), ("show", "a", "i", 0, None), ("show", "x", "a", 0, 1)]:
            told = {"word": "action", "place": 1}
            self.refused(BadBook, told, chain, [go("a", "b")], [("set", "a", "y"), wrong, None])
        for value in NO_NUMBERS:
            told = {"word": "action", "place": 0}
            self.refused(BadBook, told, chain, [], [("show", "a", "x", value, 16)])
            if value is not None:
                self.refused(BadBook, told, chain, [], [("show", "a", "x", 0, value)])
        chain([], [("show", "a", "x", 0, 1), ("show", "a", "x", 15, 16), ("show", "a", "x", 16, None), ("show", "a", "x", 0, 1)])

    def test_actions_of_the_other_sort(self):
        show, put = ("show", "a", "x", 0, None), ("set", "b", "x")
        self.refused(BadBook, {"word": "action", "place": 1}, chain, [], [show, put, None])
        self.refused(BadBook, {"word": "action", "place": 2}, chain, [], [put, ("reset", "a", "x"), show])
        chain([], [show, ("set", "a", "y"), ("reset", "b", "y"), ("set", "a", "y"), ("show", "b", "x", 1, 2)])

    def test_words_in_their_order(self):
        self.refused(BadBook, {"word": "name", "place": 1}, chain, [None], [None], outputs=["i"], marked=())
        self.refused(BadBook, {"word": "marked", "place": -1}, chain, [None], [None], marked=())
        self.refused(BadBook, {"word": "transition", "place": 0}, chain, [None], [None])


if __name__ == "__main__":
    unittest.main()
