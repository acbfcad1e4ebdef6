"""Sheets as texts."""

from guardrungs.formulas import is_name
from guardrungs.sheets import READS, Sheet
from guardrungs.textlines import are_names, head_line, lines_of, number_from, read_heads, read_parts, words_of
from guardrungs.ticks import KINDS


def _is_numbered(kind):
    return kind in KINDS or kind == "count"


def _block_text(block):
    wire, kind, wires, number = block
    words = [wire, "=", kind]
    if _is_numbered(kind):
        words.append(str(number))
    return " ".join(words + list(wires))


def sheet_text(sheet):
    """The text of a sheet."""
    lines = ["sheet", head_line("inputs", sheet.inputs)]
    lines.extend([_block_text(block) for block in sheet.blocks])
    lines.extend([f"output {name} {wire}" for name, wire in sheet.wiring])
    return "\n".join(lines)


def _block_from(words):
    if len(words) < 3 or words[2] not in READS or not is_name(words[0]):
        return None
    kind = words[2]
    wires = words[3:]
    number = 0
    if _is_numbered(kind):
        number = number_from(wires[0]) if wires else -1
        wires = wires[1:]
    if number < 0 or len(wires) != READS[kind] or not are_names(wires):
        return None
    return 0, (words[0], kind, tuple(wires), number)


def _part_from(line):
    """A block or an output, with the number of its sort; None for what is neither."""
    words = words_of(line)
    if len(words) > 1 and words[1] == "=":
        return _block_from(words)
    if words[0] != "output" or len(words) != 3 or not are_names(words[1:]):
        return None
    return 1, (words[1], words[2])


def sheet_from(text):
    """The sheet that the text tells."""
    lines = lines_of(text)
    inputs = read_heads(lines, "sheet", ("inputs",))[0]
    blocks, outputs = read_parts(lines[2:], _part_from, 2)
    return Sheet(inputs, blocks, outputs)
