"""Books of rungs led into sheets: each deed that writes or works a name gives it a wire."""

from guardrungs.books import Fresh
from guardrungs.formulas import told_edges
from guardrungs.sheets import Sheet


class Weaver:
    """The blocks made so far, and the wire that each name has at this place of the cycle."""

    def __init__(self, book):
        self.fresh = Fresh("w", {name: True for name in book.inputs})
        self.wires = {name: name for name in book.inputs}
        self.kinds = {name: (kind, number) for name, kind, number in book.timers}
        self.numbers = {name: number for name, number in book.counters}
        self.blocks = []
        self.made = {}
        self.cells = {}

    def block(self, kind, wires, number):
        """The wire of a new block."""
        wire = self.fresh.new()
        self.blocks.append((wire, kind, wires, number))
        return wire

    def gate(self, kind, wires):
        """The wire of a block that keeps nothing; a block that is there already does as well."""
        told = (kind, wires)
        if told not in self.made:
            self.made[told] = self.block(kind, wires, 0)
        return self.made[told]

    def look(self, name):
        """The name's last wire in this cycle so far, or a cell that shows the last cycle's bit."""
        if name not in self.wires:
            # What the cell reads is known only at the end of the cycle.
            self.cells[name] = self.fresh.new()
            self.wires[name] = self.cells[name]
        return self.wires[name]

    def formula(self, formula, seen):
        """The wire of the formula; seen has the cells of the names of its edges."""
        kind, inside = formula
        if kind == "bit":
            return self.gate("one" if inside == 1 else "zero", ())
        if kind == "name":
            return self.look(inside)
        if kind == "not":
            return self.gate("not", (self.formula(inside, seen),))
        if kind == "rise":
            return self.gate("and", (self.look(inside), self.gate("not", (seen[inside],))))
        if kind == "fall":
            return self.gate("and", (self.gate("not", (self.look(inside),)), seen[inside]))
        wire = self.formula(inside[0], seen)
        for part in inside[1:]:
            wire = self.gate(kind, (wire, self.formula(part, seen)))
        return wire

    def rung(self, rung):
        """The blocks of one rung."""
        formula, deeds = rung
        seen = {name: self.gate("cell", (self.look(name),)) for name in told_edges(formula)}
        wire = self.formula(formula, seen)
        for deed in list(deeds):
            self.wires[deed[1]] = self.deed(deed, wire)

    def deed(self, deed, wire):
        """The wire that the deed gives its name."""
        word, name = deed[0], deed[1]
        if word == "put":
            return wire
        if word == "not":
            return self.gate("not", (wire,))
        if word == "set":
            return self.gate("or", (self.look(name), wire))
        if word == "reset":
            return self.gate("and", (self.look(name), self.gate("not", (wire,))))
        if word == "feed":
            kind, number = self.kinds[name]
            return self.block(kind, (wire,), number)
        clear = self.look(deed[2]) if deed[2] != "" else self.gate("zero", ())
        return self.block("count", (wire, clear), self.numbers[name])

    def ended(self, names):
        """The wires of these names at the end of the cycle; the cells get what they read."""
        told = [self.look(name) for name in names]
        self.blocks.extend([(wire, "cell", (self.wires[name],), 0) for name, wire in self.cells.items()])
        return told


def versions_of(book):
    """A sheet alike to the book of rungs, and the wire of each output, cell, timer and counter."""
    weaver = Weaver(book)
    for rung in book.rungs:
        weaver.rung(rung)
    names = book.outputs + book.cells + tuple([name for name, _, _ in book.timers])
    names = names + tuple([name for name, _ in book.counters])
    pairs = tuple(list(zip(names, weaver.ended(names))))
    return Sheet(book.inputs, weaver.blocks, pairs[:len(book.outputs)]), pairs


def sheet_of_rungs(book):
    """A sheet alike to the book of rungs."""
    sheet, _ = versions_of(book)
    return sheet
