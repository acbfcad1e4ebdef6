"""Step chains as texts."""

from guardrungs.chains import Chain
from guardrungs.formtexts import formula_or_none, told_text
from guardrungs.textlines import are_names, head_line, lines_of, number_from, read_heads, read_parts, words_of


def _transition_text(transition):
    froms, formula, tos = transition
    words = ["from"] + list(froms) + ["->"] + list(tos) + [":", told_text(formula)]
    return " ".join(words)


def _action_text(action):
    return " ".join(["-" if part is None else str(part) for part in action])


def chain_text(chain):
    """The text of a chain."""
    lines = ["chain", head_line("inputs", chain.inputs), head_line("outputs", chain.outputs)]
    lines.append(head_line("cells", chain.cells))
    lines.append(head_line("steps", chain.steps))
    lines.append(head_line("marked", chain.marked))
    lines.extend([_transition_text(transition) for transition in chain.transitions])
    lines.extend([_action_text(action) for action in chain.actions])
    return "\n".join(lines)


def _transition_from(line):
    ahead, _, behind = line.partition(":")
    formula = formula_or_none(behind)
    words = words_of(ahead)
    if formula is None or not words or words[0] != "from" or "->" not in words:
        return None
    arrow = words.index("->")
    froms = words[1:arrow]
    tos = words[arrow + 1:]
    if not froms or not tos or not are_names(froms + tos):
        return None
    return 0, (tuple(froms), formula, tuple(tos))


def _action_from(words):
    if not are_names(words[1:3]):
        return None
    if words[0] in ("set", "reset") and len(words) == 3:
        return 1, tuple(words)
    if words[0] != "show" or len(words) != 5:
        return None
    least = number_from(words[3])
    end = None if words[4] == "-" else number_from(words[4])
    return None if -1 in (least, end) else (1, ("show", words[1], words[2], least, end))


def _part_from(line):
    """A transition or an action, with the number of its sort; None for what is neither."""
    return _transition_from(line) if ":" in line else _action_from(words_of(line))


def chain_from(text):
    """The chain that the text tells."""
    lines = lines_of(text)
    heads = ("inputs", "outputs", "cells", "steps", "marked")
    inputs, outputs, cells, steps, marked = read_heads(lines, "chain", heads)
    transitions, actions = read_parts(lines[6:], _part_from, 2)
    return Chain(inputs, outputs, steps, marked, transitions, actions, cells=cells)
