"""[38]: texts of sheets."""

import unittest

from guardrungs.errors import BadBook, BadText
from guardrungs.sheets import Sheet
from guardrungs.sheettexts import sheet_from, sheet_text
from tests.checks import NO_NAMES, Case
from tests.plain import Chance

TEXT = "sheet\ninputs f c\nw = and f c\nt = on 4 w\nu = count 16 f c\np = pulse 1 w\nq = off 0 w\no = one\nz = zero\n" \
       "n = not w\nor.1 = or f c\nd = odd f c\nh = hold f c\ns = choose f c w\nl = cell w\noutput x w\noutput w u"


class TestTexts(Case):
    def same(self, sheet, other):
        for name in ("inputs", "outputs", "blocks", "wiring", "order"):
            self.assertEqual(getattr(sheet, name), getattr(other, name))

    def test_example(self):
        sheet = sheet_from("sheet\ninputs i\nt = cell u\nu = odd t i\noutput x u")
        self.assertEqual((sheet.run([(1,), (0,), (1,)]), sheet.start(), sheet.order, sheet.kept),
                         (((1,), (1,), (0,)), (0,), (1,), 1))

    def test_whole_text(self):
        sheet = sheet_from(TEXT)
        self.assertEqual(sheet.blocks[:4], (
            ("w", "and", ("f", "c"), 0), ("t", "on", ("w",), 4), ("u", "count", ("f", "c"), 16), ("p", "pulse", ("w",), 1)))
        self.assertEqual(sheet.wiring, (("x", "w"), ("w", "u")))
        self.told(TEXT, sheet_text, sheet)
        self.told("sheet\ninputs", sheet_text, Sheet((), (), ()))
        self.same(sheet_from("sheet\ninputs"), Sheet((), (), ()))

    def test_by_chance(self):
        for number in range(150):
            sheet = Chance(number).sheet()
            self.same(sheet_from(sheet_text(sheet)), sheet)

    def test_loose_text(self):
        loose = "\n \n " + TEXT.replace(" ", "   ").replace("\n", "  \n \n  ") + "\n\n"
        self.same(sheet_from(loose), sheet_from(TEXT))

    def test_words_may_be_names(self):
        text = "sheet\ninputs inputs\noutput = one\ncell = cell cell\noutput output output\noutput cell inputs"
        sheet = sheet_from(text)
        self.assertEqual(sheet.wiring, (("output", "output"), ("cell", "inputs")))
        self.told(text, sheet_text, sheet)

    def line(self, text, line):
        self.refused(BadText, {"line": line}, sheet_from, text)

    def test_beginning(self):
        for value in [None, 1, b"sheet", ["sheet"]]:
            self.line(value, 0)
        for text in ["", " \n\n", "sheet", "\nsheet\n \n"]:
            self.line(text, 0)
        for text, line in [("sheets", 1), ("sheet x\ninputs", 1), ("sheet\noutput x w", 2), ("sheet\n\ninputs I", 3),
                           ("sheet\nw = one", 2), ("inputs i", 1), ("sheet\r\ninputs", 1), ("sheet\ninputs i,j", 2)]:
            self.line(text, line)

    def test_lines_that_cannot_be_read(self):
        for line in ["w", "w =", "= one", "w one", "w= one", "w =one", "w=one", "W = one", "not = one", "w = One", "w = nand i i", "w = and",
                     "w = and i", "w = and i i i", "w = and i I", "w = one i", "w = one 0", "w = cell 1 i", "w = cell", "w = on i",
                     "w = on 3", "w = on 03 i", "w = on 3 i i", "w = on i 3", "w = on -1 i", "w = on 1000000 i", "w = count 3 i",
                     "w = count i i", "w = count", "w = on", "w = and i, i", "w : one", "w = = one", "output x", "output x w v", "output",
                     "output X w", "output x W", "output x or", "Output x w", "outputs x w", "output : x w", "i", "inputs i", "sheet",
                     "w = choose i i", "w = hold i", "w\t= one", "w = not 0 i", "w = count 1 2 i"]:
            self.line("sheet\ninputs i\n" + line, 3)
            self.line("sheet\ninputs i\n\n  \nv = one\n" + line + "\nwrong", 6)
        for value in NO_NAMES:
            if isinstance(value, str) and value.strip(" ") and " " not in value and "\n" not in value:
                self.line(f"sheet\ninputs i\n{value} = one", 3)
                self.line(f"sheet\ninputs i\nw = not {value}", 3)

    def test_outputs_come_behind_blocks(self):
        self.line("sheet\ninputs i\noutput x i\nw = one", 4)

    def test_what_the_sheet_refuses(self):
        for line, word, place in [
                ("i = one", "name", 1), ("w = on 17 i", "block", 0), ("w = pulse 0 i", "block", 0), ("w = not z", "block", 0),
                ("w = count 999999 i i", "block", 0), ("output x z", "output", 0), ("output i i", "output", 0),
                ("w = not w", "ring", 0)]:
            self.refused(BadBook, {"word": word, "place": place}, sheet_from, "sheet\ninputs i\n" + line)


if __name__ == "__main__":
    unittest.main()
