"""[26]: texts of books of rungs."""

import unittest

from guardrungs.errors import BadBook, BadText
from guardrungs.rungs import Rungs
from guardrungs.rungtexts import rungs_from, rungs_text
from tests.checks import NO_NAMES, Case
from tests.plain import Chance

HEAD = "rungs\ninputs i j\noutputs x\ncells c d"
BODY = "\ntimer t on 3\ntimer s pulse 16\ncounter u 4\n(rise i and not c) : put x, not c, set d, reset x, feed t\n" \
       "i : count u clear t, feed s\n0 :"
I, NOTHING = ("name", "i"), ()


class TestTexts(Case):
    def same(self, book, other):
        for name in ("inputs", "outputs", "cells", "rungs", "timers", "counters"):
            self.assertEqual(getattr(book, name), getattr(other, name))

    def test_example(self):
        rungs = ((I, (("feed", "t"),)), (("name", "t"), (("count", "u", ""),)), (("name", "u"), (("set", "x"),)))
        book = Rungs(("i",), ("x",), (), rungs, timers=(("t", "on", 1),), counters=(("u", 2),))
        text = "rungs\ninputs i\noutputs x\ncells\ntimer t on 1\ncounter u 2\ni : feed t\nt : count u\nu : set x"
        self.told(text, rungs_text, book)
        self.same(rungs_from(text), book)

    def test_whole_text(self):
        book = rungs_from(HEAD + BODY)
        self.assertEqual(book.timers, (("t", "on", 3), ("s", "pulse", 16)))
        self.assertEqual(book.counters, (("u", 4),))
        self.assertEqual(book.rungs, (
            (("and", (("rise", "i"), ("not", ("name", "c")))),
             (("put", "x"), ("not", "c"), ("set", "d"), ("reset", "x"), ("feed", "t"))),
            (I, (("count", "u", "t"), ("feed", "s"))), (("bit", 0), NOTHING)))
        self.told(HEAD + BODY, rungs_text, book)

    def test_empty_book(self):
        text = "rungs\ninputs\noutputs\ncells"
        self.told(text, rungs_text, Rungs((), (), (), ()))
        self.same(rungs_from(text), Rungs((), (), (), ()))

    def test_by_chance(self):
        for number in range(150):
            book = Chance(number).rungs(timers=2, counters=2, deep=4)
            self.same(rungs_from(rungs_text(book)), book)

    def test_loose_text(self):
        text = "\n  \n rungs \n\ninputs  i   j\noutputs x \ncells c d\n timer  t on  3\ntimer s pulse 16\n   \ncounter u  4\n" \
               "( rise i and not(c) ):put x,not c ,set  d , reset x,feed t\n\ni:count u  clear t,feed s\n(0):\n\n"
        self.same(rungs_from(text), rungs_from(HEAD + BODY))

    def test_words_may_be_names(self):
        text = "rungs\ninputs inputs rungs\noutputs put count\ncells clear\ntimer timer on 0\ncounter counter 1\n" \
               "timer : put put, set count, count counter clear clear\nrungs : feed timer"
        book = rungs_from(text)
        self.assertEqual(book.rungs[0], (("name", "timer"), (("put", "put"), ("set", "count"), ("count", "counter", "clear"))))
        self.told(text, rungs_text, book)

    def line(self, text, line):
        self.refused(BadText, {"line": line}, rungs_from, text)

    def test_no_string(self):
        for value in [None, 1, b"rungs", ["rungs"], ("rungs", "inputs")]:
            self.line(value, 0)

    def test_ends_too_early(self):
        lines = HEAD.split("\n")
        for many in range(4):
            self.line("\n".join(lines[:many]), 0)
            self.line("\n\n" + "\n".join(lines[:many]) + "\n \n", 0)

    def test_earlier_line_ahead_of_a_lacking_one(self):
        for text, line in [
                ("rung", 1), ("rungs x", 1), ("inputs i", 1), ("\n\nrungs\noutputs x", 4), ("rungs\ninputs I", 2),
                ("rungs\ninputs i\n\noutputs 1", 4), ("rungs\ninputs i\noutputs x\ni : put x", 4), ("RUNGS", 1),
                ("rungs\ninputs i, j", 2), ("rungs\ninput i", 2), ("rungs\ninputs: i", 2), ("rungs\n\tinputs i", 2),
                ("\t\nrungs", 1), ("rungs\n\r\ninputs", 2), ("rungs\r", 1)]:
            self.line(text, line)

    def test_names_in_head_lines(self):
        for value in NO_NAMES:
            if isinstance(value, str) and value.strip(" ") and " " not in value and "\n" not in value:
                for head in ("inputs", "outputs", "cells"):
                    lines = HEAD.replace(head, f"{head} {value}")
                    self.line(lines, 2 + ("inputs", "outputs", "cells").index(head))

    def test_lines_that_cannot_be_read(self):
        deep = "not " * 40 + "i"
        for line in [
                "timer t on", "timer t on 3 4", "timer t in 3", "timer t on x", "timer t on -1", "timer t on 03", "timer t on 00",
                "timer t on 1234567", "timer t on +3", "timer t on 3.", "timer T on 3", "timer on 3", "timer not on 3", "timer",
                "counter u", "counter u 4 5", "counter u x", "counter u 04", "counter 4", "counter U 4", "counter u 1000000",
                "put x", "i", "i put x", ": put x", "i j : put x", "(i : put x", "i : put", "i : put x y", "i : put x,", "i : , put x",
                "i : put x,, put x", "i : count u clear", "i : count u clear t d", "i : count u with t", "i : count", "i : feed",
                "i :: put x", "i : put x : put x", "i : write x", "i : Put x", "i : put X", "i : put not", "i : clear u", "I : put x",
                "i : count u clear T", f"{deep} : put x", "inputs i", "cells c", "rungs", "i : put x;", "i\t: put x", "i : put\tx",
                "timer t\ton 3", "i and j : put x", "timers t on 3", "i : put x.", "i : count U", "i : count u clear and",
                "timer t on \u0663", "i ; put x", "counter u \u00b2"]:
            self.line(HEAD + "\n" + line, 5)
            self.line(HEAD + "\n\n \n" + line + "\nmore", 7)

    def test_lines_in_the_order_told(self):
        self.line(HEAD + "\ncounter u 4\ntimer t on 3", 6)
        self.line(HEAD + "\ni : put x\ntimer t on 3", 6)
        self.line(HEAD + "\ni : put x\ncounter u 4", 6)
        self.line("rungs\noutputs x\ninputs i\ncells", 2)
        # A line that can be read but is refused later does not go ahead of one that cannot be read.
        self.line(HEAD + "\ntimer t on 999999\ni :\nwrong", 7)

    def test_numbers(self):
        for word, number in [("0", 0), ("9", 9), ("10", 10)]:
            book = rungs_from(f"{HEAD}\ntimer t on {word}\ni : feed t")
            self.assertEqual(book.timers, (("t", "on", number),))

    def test_what_the_book_refuses(self):
        for line, word, place in [
                ("timer t on 17\ni : feed t", "timer", 0), ("timer t pulse 0", "timer", 0), ("counter u 0", "counter", 0),
                ("counter u 999999", "counter", 0), ("timer t on 1", "fed", 0), ("counter u 1", "counted", 0),
                ("i : put z", "rung", 0), ("i : put i", "rung", 0), ("i : feed x", "rung", 0), ("i :\nz : put x", "rung", 1),
                ("i : count u", "rung", 0), ("timer i on 1", "name", 5)]:
            self.refused(BadBook, {"word": word, "place": place}, rungs_from, HEAD + "\n" + line)
        self.refused(BadBook, {"word": "name", "place": 1}, rungs_from, "rungs\ninputs i i\noutputs\ncells")


if __name__ == "__main__":
    unittest.main()
