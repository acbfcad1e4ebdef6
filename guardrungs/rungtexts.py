"""Books of rungs as texts."""

from guardrungs.formtexts import formula_or_none, told_text
from guardrungs.formulas import is_name
from guardrungs.rungs import WRITES, Rungs
from guardrungs.textlines import head_line, lines_of, number_from, read_heads, read_parts, words_of
from guardrungs.ticks import KINDS


def _deed_text(deed):
    if deed[0] != "count" or deed[2] == "":
        return f"{deed[0]} {deed[1]}"
    return f"count {deed[1]} clear {deed[2]}"


def _rung_text(rung):
    formula, deeds = rung
    told = ", ".join([_deed_text(deed) for deed in deeds])
    return f"{told_text(formula)} : {told}" if deeds else f"{told_text(formula)} :"


def rungs_text(book):
    """The text of a book of rungs."""
    lines = ["rungs", head_line("inputs", book.inputs), head_line("outputs", book.outputs)]
    lines.append(head_line("cells", book.cells))
    lines.extend([f"timer {name} {kind} {number}" for name, kind, number in book.timers])
    lines.extend([f"counter {name} {number}" for name, number in book.counters])
    lines.extend([_rung_text(rung) for rung in book.rungs])
    return "\n".join(lines)


def _deed_from(text):
    words = words_of(text)
    if len(words) < 2 or not is_name(words[1]):
        return None
    if len(words) == 2 and (words[0] in WRITES or words[0] == "feed"):
        return (words[0], words[1])
    if words[0] != "count" or len(words) not in (2, 4):
        return None
    if len(words) == 2:
        return ("count", words[1], "")
    return ("count", words[1], words[3]) if words[2] == "clear" and is_name(words[3]) else None


def _rung_from(line):
    ahead, _, behind = line.partition(":")
    formula = formula_or_none(ahead)
    if formula is None:
        return None
    if behind.strip(" ") == "":
        return 2, (formula, ())
    deeds = [_deed_from(text) for text in behind.split(",")]
    return None if None in deeds else (2, (formula, tuple(deeds)))


def _part_from(line):
    """A timer, a counter or a rung, with the number of its sort; None for what is none of them."""
    if ":" in line:
        return _rung_from(line)
    words = words_of(line)
    number = number_from(words[-1])
    if number < 0 or len(words) < 3 or not is_name(words[1]):
        return None
    if words[0] == "timer" and len(words) == 4 and words[2] in KINDS:
        return 0, (words[1], words[2], number)
    return (1, (words[1], number)) if words[0] == "counter" and len(words) == 3 else None


def rungs_from(text):
    """The book of rungs that the text tells."""
    lines = lines_of(text)
    inputs, outputs, cells = read_heads(lines, "rungs", ("inputs", "outputs", "cells"))
    timers, counters, rungs = read_parts(lines[4:], _part_from, 3)
    return Rungs(inputs, outputs, cells, rungs, timers=timers, counters=counters)
