"""Timers and counters made of cells."""

from guardrungs.books import Fresh
from guardrungs.formsof import sheet_of
from guardrungs.machines import Machine
from guardrungs.sheets import Sheet
from guardrungs.ticks import KINDS
from guardrungs.windows import counter_machine, timer_machine


def timer_sheet(kind, number):
    """A sheet that is alike the timer, of gates and as few cells as can be."""
    return sheet_of(Machine(("v",), ("q",), timer_machine(kind, number).rows))


def untimed(sheet):
    """The sheet with each timer and counter block made of gates and cells."""
    taken = {name: True for name in sheet.inputs + sheet.outputs}
    taken.update({block[0]: True for block in sheet.blocks})
    fresh = Fresh("z", taken)
    made = {}
    blocks = []
    for block in sheet.blocks:
        _, kind, wires, number = block
        if kind not in KINDS and kind != "count":
            blocks.append(block)
            continue
        if (kind, number) not in made:
            machine = counter_machine(number) if kind == "count" else timer_machine(kind, number)
            made[(kind, number)] = sheet_of(machine)
        blocks.extend(_blocks_of(made[(kind, number)], block, fresh))
    return Sheet(sheet.inputs, blocks, sheet.wiring)


def _blocks_of(made, block, fresh):
    """The blocks of the sheet made, reading what the block reads and making its wire."""
    wire, _, wires, _ = block
    names = {name: told for name, told in zip(made.inputs, wires)}
    out = made.wiring[0][1]
    told = []
    if out in names:
        told.append((wire, "or", (names[out], names[out]), 0))
    for name, _, _, _ in made.blocks:
        names[name] = wire if name == out else fresh.new()
    for name, kind, reads, number in made.blocks:
        told.append((names[name], kind, tuple([names[read] for read in reads]), number))
    return told
