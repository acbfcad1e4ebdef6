"""Step chains led into books of rungs."""

from guardrungs.books import fresh_names
from guardrungs.formulas import all_of, any_of
from guardrungs.rungs import Rungs


def _name(name):
    return ("name", name)


def _no(name):
    return ("not", ("name", name))


class Names:
    """The cells that the book needs beside the names of the chain.

    begun is 0 in the first cycle alone. fires, taken and given are worked with in a cycle and 0 at its end.
    Cell k - 1 of ages[step] is 1 exactly if the step is marked and has at least the age k.
    """

    def __init__(self, chain):
        taken = {name: True for name in chain.inputs + chain.outputs + chain.cells + chain.steps}
        self.begun, self.fires = fresh_names("n", 2, taken)
        self.taken = _told_names("k", chain.steps, taken)
        self.given = _told_names("g", chain.steps, taken)
        oldest = {step: 0 for step in chain.steps}
        for action in chain.actions:
            numbers = [number for number in action[3:] if number is not None]
            oldest[action[1]] = max([oldest[action[1]]] + numbers)
        cells = fresh_names("a", sum(list(oldest.values())), taken)
        self.ages = {}
        for step, many in list(oldest.items()):
            self.ages[step] = cells[:many]
            cells = cells[many:]

    def all_told(self):
        """All these cells."""
        ages = [cell for cells in self.ages.values() for cell in cells]
        return [self.begun] + self.working() + ages

    def working(self):
        """The cells that are 0 at the end of each cycle."""
        return [self.fires] + list(self.taken.values()) + list(self.given.values())


def _told_names(prefix, steps, taken):
    """For each step a new name."""
    return {step: name for step, name in zip(steps, fresh_names(prefix, len(steps), taken))}


def _fire_rungs(transition, names):
    """The formula has a rung of its own, for it may be as deep as a formula can be."""
    froms, formula, tos = transition
    parts = [_name(names.fires)] + [_name(step) for step in froms] + [_no(names.taken[step]) for step in froms]
    deeds = [("set", names.taken[step]) for step in froms] + [("set", names.given[step]) for step in tos]
    return [(formula, (("put", names.fires),)), (all_of(*parts), tuple(deeds))]


def _age_rungs(step, names):
    """The ages of a step that is neither taken nor given grow, the greatest one first."""
    rungs = []
    stays = [_name(step), _no(names.taken[step]), _no(names.given[step])]
    # The age -1 of the start is no age yet.
    younger = [names.begun] + names.ages[step]
    for age in range(len(names.ages[step]), 0, -1):
        parts = stays + [_name(younger[age - 1])]
        rungs.append((all_of(*parts), (("put", younger[age]),)))
    return rungs


def _mark_rung(step, names):
    stays = all_of(_name(step), _no(names.taken[step]))
    return (any_of(stays, _name(names.given[step])), (("put", step),))


def _shown(action, names):
    """The formula of one show action."""
    _, step, _, least, end = action
    parts = [_name(step)]
    if least > 0:
        parts.append(_name(names.ages[step][least - 1]))
    if end is not None:
        parts.append(_no(names.ages[step][end - 1]))
    return all_of(*parts)


def _name_rungs(chain, name, names):
    """The rungs that write an output or a cell of the chain."""
    actions = [action for action in chain.actions if action[2] == name]
    shows = [_shown(action, names) for action in actions if action[0] == "show"]
    rungs = []
    if shows:
        rungs.append((any_of(*shows), (("put", name),)))
    for word in ("set", "reset"):
        steps = [_name(action[1]) for action in actions if action[0] == word]
        if steps:
            rungs.append((any_of(*steps), ((word, name),)))
    return rungs


def chain_cells(chain):
    """A book of rungs alike to the chain, and for each step, output and cell of the chain its name in the book."""
    names = Names(chain)
    begin = [("set", step) for step in chain.marked]
    end = [("set", names.begun)] + [("reset", cell) for cell in names.working()]
    rungs = [(_no(names.begun), tuple(begin))]
    for transition in chain.transitions:
        rungs.extend(_fire_rungs(transition, names))
    for step in chain.steps:
        rungs.extend(_age_rungs(step, names))
    rungs.extend([_mark_rung(step, names) for step in chain.steps])
    for name in chain.outputs + chain.cells:
        rungs.extend(_name_rungs(chain, name, names))
    rungs.append((("bit", 1), tuple(end)))
    cells = list(chain.steps + chain.cells) + names.all_told()
    pairs = tuple([(name, name) for name in chain.steps + chain.outputs + chain.cells])
    return Rungs(chain.inputs, chain.outputs, cells, rungs), pairs


def rungs_of_chain(chain):
    """A book of rungs alike to the chain."""
    book, _ = chain_cells(chain)
    return book
