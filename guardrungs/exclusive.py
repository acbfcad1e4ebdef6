"""Transitions that overlap, and the exclusive chain, in which none do."""

from guardrungs.bits import columns_of
from guardrungs.errors import BadFormula, TooMany
from guardrungs.formulas import has_edges, is_formula, told_names, worked


def _check_plain(chain, depth):
    """Raise BadFormula unless all formulas are plain and of at most this depth."""
    for _, formula, _ in chain.transitions:
        if has_edges(formula) or not is_formula(formula, None, depth):
            raise BadFormula()


def _meet(chain, i, j):
    """True if the two transitions have a from step in common."""
    froms = chain.transitions[j][0]
    return any([step in froms for step in chain.transitions[i][0]])


def _pairs(chain):
    """The pairs of places, ascending, of transitions with a from step in common."""
    many = len(chain.transitions)
    return [(i, j) for i in range(many) for j in range(i + 1, many) if _meet(chain, i, j)]


def _names_together(chain, i, j):
    formulas = (chain.transitions[i][1], chain.transitions[j][1])
    return sorted(set(told_names(formulas[0]) + told_names(formulas[1])))


def _overlap(chain, i, j):
    names = _names_together(chain, i, j)
    full = (1 << (1 << len(names))) - 1
    bits = {name: column for name, column in zip(names, columns_of(len(names)))}
    for step in chain.transitions[i][0] + chain.transitions[j][0]:
        bits[step] = full
    first = worked(chain.transitions[i][1], bits, {}, full)
    return first & worked(chain.transitions[j][1], bits, {}, full) != 0


def overlap(chain):
    """The first pair of transitions that overlap; None if no two do."""
    _check_plain(chain, 40)
    pairs = _pairs(chain)
    for i, j in pairs:
        if len(_names_together(chain, i, j)) > 10:
            raise TooMany(10)
    for i, j in pairs:
        if _overlap(chain, i, j):
            return (i, j)
    return None


def _heights(chain):
    """For each transition the number of transitions ahead, each with a from step in common with the next."""
    heights = []
    for j in range(len(chain.transitions)):
        heights.append(max([heights[i] + 1 for i in range(j) if _meet(chain, i, j)], default=0))
    return heights


def exclusive(chain):
    """The chain in which an earlier transition that fires shuts the later ones that want its steps."""
    _check_plain(chain, 20)
    if max(_heights(chain), default=0) > 6:
        raise TooMany(6)
    transitions = []
    for j, (froms, formula, tos) in enumerate(chain.transitions):
        shut = []
        for i in range(j):
            if _meet(chain, i, j):
                marks = tuple([("name", step) for step in transitions[i][0]])
                shut.append(("not", ("and", marks + (transitions[i][1],))))
        transitions.append((froms, ("and", (formula,) + tuple(shut)) if shut else formula, tos))
    return chain.with_transitions(transitions)
