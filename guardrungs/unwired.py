"""Sheets led into books of rungs."""

from guardrungs.books import fresh_names
from guardrungs.rungs import Rungs
from guardrungs.ticks import KINDS


def _gate_formula(kind, parts, own):
    """The formula of a block that is no timer, counter or cell, its wires being told by these formulas."""
    if kind in ("zero", "one"):
        return ("bit", 1 if kind == "one" else 0)
    if kind == "not":
        return ("not", parts[0])
    if kind in ("and", "or"):
        return (kind, (parts[0], parts[1]))
    if kind == "hold":
        return ("and", (("or", (parts[0], own)), ("not", parts[1])))
    if kind == "odd":
        one = ("and", (parts[0], ("not", parts[1])))
        return ("or", (one, ("and", (("not", parts[0]), parts[1]))))
    low = ("and", (("not", parts[0]), parts[1]))
    return ("or", (low, ("and", (parts[0], parts[2]))))


def _block_rung(block, names):
    """The rung that works a direct block; names tells the name of each wire."""
    wire, kind, wires, _ = block
    parts = [("name", names[read]) for read in wires]
    if kind in KINDS:
        return (parts[0], (("feed", names[wire]),))
    if kind == "count":
        return (parts[0], (("count", names[wire], names[wires[1]]),))
    return (_gate_formula(kind, parts, ("name", names[wire])), (("put", names[wire]),))


def _put(old, new):
    return (("name", old), (("put", new),))


def cells_of(sheet):
    """A book of rungs alike to the sheet, and the name of each block's wire in it."""
    taken = {name: True for name in sheet.inputs + sheet.outputs}
    wires = [block[0] for block in sheet.blocks]
    told = fresh_names("w", len(wires), taken)
    pairs = tuple(list(zip(wires, told)))
    names = {name: name for name in sheet.inputs}
    names.update({wire: name for wire, name in pairs})
    shown = [block for block in sheet.blocks if block[1] == "cell"]
    laid_by = fresh_names("n", len(shown), taken)
    rungs = [_put(laid, names[block[0]]) for block, laid in zip(shown, laid_by)]
    rungs.extend([_block_rung(sheet.blocks[place], names) for place in sheet.order])
    rungs.extend([_put(names[wire], name) for name, wire in sheet.wiring])
    rungs.extend([_put(names[block[2][0]], laid) for block, laid in zip(shown, laid_by)])
    timers = [(names[wire], kind, number) for wire, kind, _, number in sheet.blocks if kind in KINDS]
    counters = [(names[wire], number) for wire, kind, _, number in sheet.blocks if kind == "count"]
    plain = [names[wire] for wire, kind, _, _ in sheet.blocks if kind not in KINDS and kind != "count"]
    book = Rungs(sheet.inputs, sheet.outputs, plain + laid_by, rungs, timers=timers, counters=counters)
    return book, pairs


def rungs_of_sheet(sheet):
    """A book of rungs alike to the sheet."""
    book, _ = cells_of(sheet)
    return book
