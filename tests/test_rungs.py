"""[9], [18] to [21]: books and books of rungs."""

import unittest

from guardrungs.books import Book
from guardrungs.errors import BadBook, BadName, BadNumber, BadRow
from guardrungs.rungs import Rungs
from tests.checks import NO_BITS, NO_NAMES, NO_NUMBERS, NO_ROWS, Case
from tests.plain import Chance, rows, run_rungs

I, X, C = ("name", "i"), ("name", "x"), ("name", "c")


def put(formula, name):
    return (formula, (("put", name),))


def wire(rungs, **more):
    return Rungs(("i", "j"), ("x", "y"), ("c",), rungs, **more)


class TestRunning(Case):
    def test_examples(self):
        both = ("and", (("not", C), I))
        book = Rungs(("i",), ("x",), ("c",), (put(both, "x"), put(I, "c")))
        self.told(((1,), (0,), (0,), (1,)), book.run, [(1,), (1,), (0,), (1,)])
        rungs = ((I, (("feed", "t"),)), (("name", "t"), (("count", "u", ""),)), (("name", "u"), (("set", "x"),)))
        book = Rungs(("i",), ("x",), (), rungs, timers=(("t", "on", 1),), counters=(("u", 2),))
        self.told(((0,), (0,), (0,), (0,), (1,)), book.run, [(1,), (1,), (0,), (1,), (1,)])

    def test_deeds_from_left_to_right_each_at_once(self):
        book = wire([(I, (("put", "x"), ("not", "y"), ("put", "c"), ("reset", "x"))), put(("name", "y"), "c")])
        self.told(((0, 0), (0, 1)), book.run, [(1, 0), (0, 0)])
        self.told((0, 1, 1), lambda: book.run_from(book.start(), [(0, 0)])[1])

    def test_formula_is_worked_once(self):
        # The second deed takes the bit that the formula had ahead of the first one.
        book = wire([(("not", X), (("put", "x"), ("put", "y")))])
        self.told(((1, 1), (0, 0), (1, 1)), book.run, [(0, 0)] * 3)

    def test_set_and_reset_do_nothing_at_0(self):
        book = wire([(I, (("set", "x"),)), (("name", "j"), (("reset", "x"),))])
        self.told(((0, 0), (1, 0), (1, 0), (0, 0), (0, 0)), book.run, [(0, 0), (1, 0), (0, 0), (1, 1), (0, 0)])

    def test_bits_stay_until_they_are_written(self):
        book = wire([put(X, "y"), put(I, "x")])
        self.told(((1, 0), (0, 1), (0, 0)), book.run, [(1, 0), (0, 0), (0, 0)])

    def test_edges(self):
        book = wire([put(("rise", "i"), "x"), put(("fall", "i"), "y")])
        self.told(((1, 0), (0, 0), (0, 1), (0, 0), (1, 0)), book.run, [(1, 0), (1, 0), (0, 0), (0, 0), (1, 0)])
        self.assertEqual(book.start(), (0, 0, 0, 0, 0))
        self.assertEqual(book.step(book.start(), (1, 0))[1], (1, 0, 0, 1, 1))

    def test_edges_are_looked_at_also_where_they_do_not_matter(self):
        book = wire([put(("and", (("name", "j"), ("rise", "i"))), "x"), put(("or", (("bit", 1), ("rise", "i"))), "y")])
        self.told(((0, 1), (0, 1), (0, 1), (1, 1)), book.run, [(1, 0), (1, 1), (0, 1), (1, 1)])

    def test_edges_see_the_bit_of_the_moment(self):
        book = wire([put(("rise", "c"), "x"), put(I, "c"), put(("rise", "c"), "y")])
        self.told(((0, 1), (1, 0), (0, 0), (0, 1)), book.run, [(1, 0), (1, 0), (0, 0), (1, 0)])

    def test_timer_bit_ahead_of_its_feed_is_the_last_one(self):
        book = wire([put(("name", "t"), "x"), (I, (("feed", "t"),)), put(("name", "t"), "y")], timers=[("t", "on", 0)])
        self.told(((0, 1), (1, 0), (0, 0)), book.run, [(1, 0), (0, 0), (0, 0)])
        self.assertEqual(book.step(book.start(), (1, 0))[1], (0, 1, 0, 0, 1))

    def test_clearing_name_of_the_moment(self):
        rungs = [(I, (("put", "c"), ("count", "u", "c"))), put(("name", "u"), "x")]
        book = wire(rungs, counters=[("u", 1)])
        self.told(((0, 0),), book.run, [(1, 0)])
        rungs = [(I, (("count", "u", "c"), ("put", "c"))), put(("name", "u"), "x")]
        book = wire(rungs, counters=[("u", 1)])
        self.told(((1, 0), (0, 0), (0, 0), (1, 0)), book.run, [(1, 0), (1, 0), (0, 0), (1, 0)])

    def test_counter_cleared_by_itself(self):
        book = wire([(I, (("count", "u", "u"),)), put(("name", "u"), "x")], counters=[("u", 2)])
        flat = [(1, 0), (0, 0)] * 4
        self.assertEqual([answer[0] for answer in book.run(flat)], [0, 0, 1, 0, 0, 0, 1, 0])

    def test_standing(self):
        rungs = [(("and", (("rise", "x"), ("fall", "i"), ("rise", "c"))), (("feed", "t"), ("feed", "s"))),
                 (("fall", "j"), (("count", "u", "j"), ("put", "c")))]
        book = wire(rungs, timers=[("t", "off", 3), ("s", "pulse", 2)], counters=[("u", 4)])
        self.told((0, 0, 0, 3, 0, 0, 0, 0, 0, 0, 0, 0, 0), book.start)
        self.told(((0, 0), (0, 0, 0, 3, 0, 0, 0, 0, 0, 0, 1, 0, 1)), book.step, book.start(), [1, 1])
        self.told(((0, 0), (0, 0, 1, 3, 0, 0, 0, 1, 1, 0, 0, 0, 0)), book.step, book.step(book.start(), (1, 1))[1], (0, 0))

    def test_books_by_chance(self):
        for number in range(120):
            chance = Chance(number)
            book = chance.rungs(rungs=7, timers=2, counters=2)
            readings = chance.readings(2, 40)
            answers, shown = run_rungs(book, readings)
            self.assertEqual(book.run(readings), answers)
            standing = book.start()
            for place, reading in enumerate(readings):
                each = book.step_each(standing)
                answer, standing = book.step(standing, reading)
                self.assertEqual((answer, standing), each[2 * reading[0] + reading[1]])
                for name, bit in shown[place].items():
                    if name not in book.inputs:
                        self.assertEqual(book.bit_in(standing, name), bit)
            cut = number % 40
            answers, standing = book.run_from(book.start(), readings[:cut])
            self.assertEqual(answers + book.run_from(standing, readings[cut:])[0], book.run(readings))

    def test_run_from(self):
        book = wire([put(I, "x")])
        self.told(((), (0, 0, 0)), book.run_from, book.start(), [])
        self.told((((1, 0), (0, 0)), (0, 0, 0)), book.run_from, book.start(), ([1, 1], (0, 1)))
        self.told(((),), Rungs((), (), (), ()).run, [()])
        self.told((), Rungs((), (), (), ()).start)

    def test_readings_are_refused_ahead_of_all_steps(self):
        book = wire([put(I, "x")])
        for value in NO_ROWS + [(1,), (1, 1, 1)]:
            self.refused(BadRow, {"place": -1}, book.step, book.start(), value)
            self.refused(BadRow, {"place": -1}, book.checked, value)
            self.refused(BadRow, {"place": -1}, book.run, [(1, 1), value, (2, 2)])
            self.refused(BadRow, {"place": -1}, book.run_from, "no standing", [(1, 1), value])
        for value in NO_BITS:
            self.refused(BadRow, {"place": 1}, book.step, book.start(), [1, value])
            self.refused(BadRow, {"place": 0}, book.run, [(1, 1), (value, 1), (1,)])
        self.told((1, 0), book.checked, [1, 0])

    def test_book_is_the_base(self):
        self.assertTrue(issubclass(Rungs, Book))


class TestNeighbours(Case):
    def test_exchanged(self):
        exchanged = 0
        for number in range(400):
            book = Chance(number).rungs(rungs=2, timers=0, counters=0, outputs=3, with_edges=False, deep=2)
            (formula, deeds), (other, others) = book.rungs
            writes, other_writes = {deed[1] for deed in deeds}, {deed[1] for deed in others}
            looks, other_looks = str(formula), str(other)
            if writes & other_writes or any(f"'{name}'" in other_looks for name in writes):
                continue
            if any(f"'{name}'" in looks for name in other_writes):
                continue
            exchanged += 1
            turned = book.in_order([1, 0])
            self.assertEqual(turned.start(), book.start())
            for bits in rows(5):
                for reading in rows(2):
                    self.assertEqual(book.step(bits, reading), turned.step(bits, reading))
        self.assertGreater(exchanged, 20)

    def test_bit_that_nobody_looks_at(self):
        book = wire([put(I, "x"), put(X, "c"), put(C, "y")])
        for x, y, c in rows(3):
            for reading in rows(2):
                self.assertEqual(book.step((x, y, c), reading), book.step((0, 0, 0), reading))


class TestRefused(Case):
    def book(self, inputs=("i",), outputs=("x",), cells=("c",), rungs=(), timers=(), counters=()):
        return Rungs(inputs, outputs, cells, rungs, timers=timers, counters=counters)

    def test_attributes_are_copies(self):
        inputs, outputs, cells, rungs = ["i"], ["x"], ["c"], [put(I, "x"), (I, (("feed", "t"), ("count", "u", "c")))]
        timers, counters = [("t", "on", 2)], [("u", 2)]
        book = self.book(inputs, outputs, cells, rungs, timers, counters)
        told = (book.inputs, book.outputs, book.cells, book.rungs, book.timers, book.counters)
        self.assertEqual(told, (("i",), ("x",), ("c",), tuple(rungs), tuple(timers), tuple(counters)))
        for part in (inputs, outputs, cells, rungs, timers, counters):
            part.clear()
        self.assertEqual(told, (book.inputs, book.outputs, book.cells, book.rungs, book.timers, book.counters))
        self.assertEqual(book.run([(1,)]), ((1,),))

    def test_names(self):
        for value in NO_NAMES:
            self.refused(BadBook, {"word": "name", "place": 1}, self.book, ("i", value))
            self.refused(BadBook, {"word": "name", "place": 2}, self.book, cells=[value])
            self.refused(BadBook, {"word": "name", "place": 3}, self.book, timers=[(value, "on", 2)])
            self.refused(BadBook, {"word": "name", "place": 4}, self.book, counters=[("u", 1), (value, 2)])
        for outputs, place in [(("i",), 1), (("x", "x"), 2), (("x", "c"), 3)]:
            self.refused(BadBook, {"word": "name", "place": place}, self.book, outputs=outputs)
        for timer in [None, ("t", "on"), ("t", "on", 2, 3), ["t", "on", 2], "abc", ()]:
            self.refused(BadBook, {"word": "name", "place": 4}, self.book, timers=[("s", "on", 1), timer])
        for counter in [None, ("u",), ("u", 2, 3), ["u", 2], "ab", ()]:
            self.refused(BadBook, {"word": "name", "place": 4}, self.book, timers=[("s", "on", 1)], counters=[counter])

    def test_each_word_for_all_parts_ahead_of_the_next(self):
        rung = (I, (("put", "z"),))
        timers, counters = [("t", "no", 1)], [("u", 0)]
        self.refused(BadBook, {"word": "name", "place": 4}, self.book, rungs=[rung], timers=timers, counters=[("t", 0)])
        self.refused(BadBook, {"word": "timer", "place": 0}, self.book, rungs=[rung], timers=timers, counters=counters)
        self.refused(BadBook, {"word": "counter", "place": 0}, self.book, rungs=[rung], timers=[("t", "on", 1)], counters=counters)
        self.refused(BadBook, {"word": "rung", "place": 0}, self.book, rungs=[rung], timers=[("t", "on", 1)], counters=[("u", 1)])
        self.refused(BadBook, {"word": "fed", "place": 0}, self.book, timers=[("t", "on", 1)], counters=[("u", 1)])
        fed = (I, (("feed", "t"),))
        self.refused(BadBook, {"word": "counted", "place": 0}, self.book, rungs=[fed], timers=[("t", "on", 1)], counters=[("u", 1)])

    def test_timers_and_counters(self):
        for kind, number in [("on", -1), ("on", 17), ("off", 17), ("pulse", 0), ("pulse", 17), ("", 1), (None, 1), (["on"], 1)]:
            self.refused(BadBook, {"word": "timer", "place": 1}, self.book, timers=[("t", "on", 0), ("s", kind, number)])
        for number in NO_NUMBERS:
            self.refused(BadBook, {"word": "timer", "place": 0}, self.book, timers=[("t", "on", number)])
            self.refused(BadBook, {"word": "counter", "place": 0}, self.book, counters=[("u", number)])
        for number in (0, -1, 17):
            self.refused(BadBook, {"word": "counter", "place": 1}, self.book, counters=[("v", 16), ("u", number)])
        fed = [(I, (("feed", "t"), ("feed", "s"), ("feed", "r"), ("count", "u", "t")))]
        self.book(rungs=fed, timers=[("t", "on", 16), ("s", "off", 0), ("r", "pulse", 1)], counters=[("u", 16)])

    def test_rungs(self):
        fed = (I, (("feed", "t"), ("count", "u", "")))
        deep = I
        for _ in range(40):
            deep = ("not", deep)
        wrong = [
            None, (), (I,), (I, (), ()), [I, ()], (I, [("put", "x")]), (I, None), (None, ()), (("name", "z"), ()),
            (("rise", "z"), ()), (("and", (I, ("fall", "z"))), ()), (deep, ()), (I, ("put", "x")), (I, (("put",),)),
            (I, (("put", "i"),)), (I, (("set", "t"),)), (I, (("reset", "u"),)), (I, (("not", "z"),)), (I, (["put", "x"],)),
            (I, (("put", "x", ""),)), (I, (("feed", "x"),)), (I, (("feed", "u"),)), (I, (("feed", "i"),)),
            (I, (("count", "t", ""),)), (I, (("count", "u"),)), (I, (("count", "u", "z"),)), (I, (("count", "u", None),)),
            (I, (("count", "x", ""),)), (I, (("count", "u", "", ""),)), (I, (("write", "x"),)), (I, (("PUT", "x"),)),
            (I, ((None, "x"),)), (I, (("put", ["x"]),)), (I, (("put", None),)), (I, (("", "i"),)), (I, (("input", "i"),)),
            (I, (("put", "x"), ("name", "i"))), (I, (("count", ["u"], ""),)), (I, (("count", "u", ["c"]),)), (I, ((),)),
            (I, "put"), ("i", ()), (I, (("put", ""),)), (I, (("feed", ""),)), (I, (("count", "", ""),)), (I, (("write", "c"),))]
        for rung in wrong:
            told = {"word": "rung", "place": 1}
            self.refused(BadBook, told, self.book, rungs=[fed, rung, None], timers=[("t", "on", 1)], counters=[("u", 1)])
        for clear in ["i", "x", "c", "t", "u", ""]:
            rung = (("or", (I, X, C, ("name", "t"), ("rise", "u"))), (("feed", "t"), ("count", "u", clear)))
            self.book(rungs=[rung, (I, ())], timers=[("t", "on", 1)], counters=[("u", 1)])

    def test_fed_and_counted_by_just_one_deed(self):
        feed, count = (I, (("feed", "t"),)), (I, (("count", "u", ""),))
        timers, counters = [("s", "on", 1), ("t", "on", 1)], [("v", 1), ("u", 1)]
        fine = (I, (("feed", "s"), ("count", "v", "")))
        for rungs, word in [
                ([fine, count], "fed"), ([fine, feed, feed], "fed"), ([fine, feed], "counted"),
                ([fine, feed, (I, (("count", "u", ""), ("count", "u", "")))], "counted")]:
            self.refused(BadBook, {"word": word, "place": 1}, self.book, rungs=rungs, timers=timers, counters=counters)


class TestParts(Case):
    def book(self):
        rungs = [(I, (("feed", "t"), ("put", "c"))), (("name", "t"), (("count", "u", "t"),)),
                 (("or", (("rise", "t"), ("and", (("fall", "u"), ("not", ("name", "t")))))), (("put", "x"),)),
                 (("name", "u"), (("count", "v", "c"),))]
        return Rungs(("i",), ("x",), ("c",), rungs, timers=(("t", "on", 1),), counters=(("u", 2), ("v", 3)))

    def test_bit_in(self):
        standing = (1, 0, 5, 1, 2, 0, 2, 1) + (0,) * 9
        for name, bit in [("x", 1), ("c", 0), ("t", 1), ("u", 1), ("v", 0)]:
            self.told(bit, self.book().bit_in, standing, name)
        for name in ["i", "z", "", None, 1, ["x"], ("x",)]:
            self.refused(BadName, {"name": name}, self.book().bit_in, standing, name)

    def test_without(self):
        zero = ("bit", 0)
        book = self.book().without(0)
        self.assertEqual((book.inputs, book.outputs, book.cells), (("i",), ("x",), ("c",)))
        self.assertEqual((book.timers, book.counters), ((), (("u", 2), ("v", 3))))
        self.assertEqual(book.rungs, (
            (zero, (("count", "u", ""),)), (("or", (zero, ("and", (("fall", "u"), ("not", zero))))), (("put", "x"),)),
            (("name", "u"), (("count", "v", "c"),))))
        book = self.book().without(1)
        self.assertEqual((book.timers, book.counters), ((("t", "on", 1),), (("v", 3),)))
        self.assertEqual(book.rungs[1:], (
            (("or", (("rise", "t"), ("and", (zero, ("not", ("name", "t")))))), (("put", "x"),)), (zero, (("count", "v", "c"),))))
        book = self.book().without(2)
        self.assertEqual(book.rungs, self.book().rungs[:2] + self.book().rungs[3:])
        self.assertEqual(Rungs((), (), (), [(zero, ())]).without(0).rungs, ())

    def test_without_refuses(self):
        for place in NO_NUMBERS + [-1, 4]:
            self.refused(BadNumber, {"word": "place"}, self.book().without, place)
        self.refused(BadNumber, {"word": "place"}, Rungs((), (), (), ()).without, 0)

    def test_in_order(self):
        book = self.book()
        other = book.in_order([2, 0, 3, 1])
        self.assertEqual(other.rungs, tuple(book.rungs[place] for place in (2, 0, 3, 1)))
        self.assertEqual((other.timers, other.counters, other.cells), (book.timers, book.counters, book.cells))
        self.assertEqual(Rungs((), (), (), ()).in_order(()).rungs, ())

    def test_in_order_refuses(self):
        for order in [None, 0, "0123", (0, 1, 2), (0, 1, 2, 2), (0, 1, 2, 4), (0, 1, 2, 3, 3), (0, True, 2, 3),
                      (-1, 0, 1, 2), {0: 0, 1: 1, 2: 2, 3: 3}, ("0", 1, 2, 3), (None, 1, 2, 3)]:
            self.refused(BadNumber, {"word": "order"}, self.book().in_order, order)


if __name__ == "__main__":
    unittest.main()
