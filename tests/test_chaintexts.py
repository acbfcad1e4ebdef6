"""[56]: texts of chains."""

import unittest

from guardrungs.chains import Chain
from guardrungs.chaintexts import chain_from, chain_text
from guardrungs.errors import BadBook, BadText
from tests.checks import NO_NAMES, Case
from tests.plain import Chance

HEAD = "chain\ninputs i j\noutputs x y\ncells c\nsteps s u v\nmarked u s"
TEXT = HEAD + "\nfrom s u -> v : (i and not rise j)\nfrom v -> s u v : 1\nshow s x 0 3\nshow u x 16 -\nset s y\nreset v c"


class TestTexts(Case):
    def same(self, book, other):
        for name in ("inputs", "outputs", "cells", "steps", "marked", "transitions", "actions"):
            self.assertEqual(getattr(book, name), getattr(other, name))

    def test_whole_text(self):
        book = chain_from(TEXT)
        self.assertEqual((book.inputs, book.outputs, book.cells, book.steps, book.marked),
                         (("i", "j"), ("x", "y"), ("c",), ("s", "u", "v"), ("u", "s")))
        self.assertEqual(book.transitions, (
            (("s", "u"), ("and", (("name", "i"), ("not", ("rise", "j")))), ("v",)), (("v",), ("bit", 1), ("s", "u", "v"))))
        self.assertEqual(book.actions, (
            ("show", "s", "x", 0, 3), ("show", "u", "x", 16, None), ("set", "s", "y"), ("reset", "v", "c")))
        self.told(TEXT, chain_text, book)

    def test_least_text(self):
        text = "chain\ninputs\noutputs\ncells\nsteps a\nmarked a"
        self.same(chain_from(text), Chain((), (), ("a",), ("a",), (), ()))
        self.told(text, chain_text, chain_from(text))

    def test_by_chance(self):
        for number in range(150):
            book = Chance(number).chain()
            self.same(chain_from(chain_text(book)), book)

    def test_loose_text(self):
        loose = TEXT.replace(" ", "   ").replace("\n", "  \n \n  ").replace("   :   (", ":( ").replace("   :   1", ":1")
        self.same(chain_from("\n " + loose + "\n\n"), chain_from(TEXT))

    def test_words_may_be_names(self):
        text = "chain\ninputs inputs\noutputs show set\ncells reset\nsteps from chain steps\nmarked from\n" \
               "from from chain -> from : (chain or steps)\nshow from show 0 1\nset steps set\nreset chain reset"
        self.told(text, chain_text, chain_from(text))

    def line(self, text, line):
        self.refused(BadText, {"line": line}, chain_from, text)

    def test_beginning(self):
        for value in [None, 1, b"chain", ["chain"]]:
            self.line(value, 0)
        lines = HEAD.split("\n")
        for many in range(6):
            self.line("\n".join(lines[:many]), 0)
            self.line("\n\n".join(lines[:many] + [" "]), 0)
            self.line("\n".join(lines[:many] + ["wrong"]), many + 1)
            self.line("\n\n".join(lines[:many] + ["from s -> u : 1"]), 2 * many + 1)
        self.line("chain x\n" + "\n".join(lines[1:]), 1)
        for value in NO_NAMES:
            if isinstance(value, str) and value.strip(" ") and " " not in value and "\n" not in value:
                for at, head in enumerate(("inputs", "outputs", "cells", "steps", "marked")):
                    self.line(HEAD.replace(head, f"{head} {value}"), at + 2)

    def test_lines_that_cannot_be_read(self):
        deep = "not " * 40 + "i"
        for line in ["from s -> u", "from s u : 1", "from -> u : 1", "from s -> : 1", "from s -> u :", "from s -> u : ", "froms s -> u : 1",
                     "s -> u : 1", ": 1", "from s->u : 1", "from s ->u : 1", "from s -> u -> v : 1", "from s -> U : 1", "from S -> u : 1",
                     "from s -> u : 1 :", "from s -> u : i and j", f"from s -> u : {deep}", "from s -> u : I", "from s, u -> v : 1",
                     "from s - > u : 1", "from s => u : 1", "from s -> u ; 1", "set s", "set s x y", "set S x", "set s X", "set", "Set s x",
                     "put s x", "reset s", "reset s x 0", "show s x", "show s x 0", "show s x 0 1 2", "show s x - 1", "show s x - -",
                     "show s x 00 1", "show s x 0 01", "show s x 0 --", "show s x 0 -1", "show s x 1000000 -", "show s x 0 1000000",
                     "show s x 0 +1", "show S x 0 -", "show s X 0 -", "show s x 0 None", "inputs i", "marked s", "chain", "x", "show s : x",
                     "from s -> not : 1", "from and -> s : 1", "set s or", "set\ts x", "from s\t-> u : 1"]:
            self.line(HEAD + "\n" + line, 7)
            self.line(HEAD + "\n \n" + line + "\nwrong", 8)

    def test_actions_come_behind_transitions(self):
        self.line(HEAD + "\nset s x\nfrom s -> u : 1", 8)
        self.line(HEAD + "\nset s z\nwrong", 8)

    def test_what_the_chain_refuses(self):
        for line, word, place in [
                ("from s -> z : 1", "transition", 0), ("from s s -> u : 1", "transition", 0), ("from s -> u : z", "transition", 0),
                ("from x -> u : 1", "transition", 0), ("set s s", "action", 0), ("show s x 3 3", "action", 0), ("show s x 17 -", "action", 0),
                ("show s x 0 999999", "action", 0), ("set s x\nshow s x 0 -", "action", 1), ("set z x", "action", 0)]:
            self.refused(BadBook, {"word": word, "place": place}, chain_from, HEAD + "\n" + line)
        self.refused(BadBook, {"word": "marked", "place": -1}, chain_from, HEAD.replace("marked u s", "marked"))
        self.refused(BadBook, {"word": "marked", "place": 1}, chain_from, HEAD.replace("marked u s", "marked u u"))
        self.refused(BadBook, {"word": "name", "place": 1}, chain_from, HEAD.replace("i j", "i i"))


if __name__ == "__main__":
    unittest.main()
