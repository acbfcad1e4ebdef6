"""Plants as step chains, and step chains as plants."""

from guardrungs.bits import is_listed
from guardrungs.books import numbered_names
from guardrungs.chains import Chain
from guardrungs.errors import BadLot
from guardrungs.lotsofone import many_in, wrong_place
from guardrungs.plants import Plant


def _step(machine, standing):
    return f"m{machine}.s{standing}"


def _formula(plant, number, change):
    """The formula of the transitions of this change."""
    name = ("name", f"c{number}")
    for driven, output, bit in plant.drivers:
        if driven == change:
            lets = ("name", f"o{output}")
            return ("and", (name, lets if bit == 1 else ("not", lets)))
    return name


def _ways(plant, change):
    """Each way to take one arrow by the change from each machine that has it: its first and its last steps."""
    ways = [((), ())]
    for machine, (_, arrows) in enumerate(plant.machines):
        pairs = [(_step(machine, begin), _step(machine, end)) for begin, name, end in arrows if name == change]
        if pairs:
            ways = [(froms + (begin,), tos + (end,)) for froms, tos in ways for begin, end in pairs]
    return ways


def chain_of_plant(plant):
    """The chain of a plant: a step for each standing of each machine, transitions for each change."""
    inputs = numbered_names("o", plant.outputs) + numbered_names("c", len(plant.changes))
    steps = []
    transitions = []
    for machine, (size, _) in enumerate(plant.machines):
        steps.extend([_step(machine, standing) for standing in range(size)])
    for number, change in enumerate(plant.changes):
        formula = _formula(plant, number, change)
        transitions.extend([(froms, formula, tos) for froms, tos in _ways(plant, change)])
    marked = [_step(machine, 0) for machine in range(len(plant.machines))]
    return Chain(inputs, (), steps, marked, transitions, ())


def _is_machine_lot(chain, lot):
    """True for a lot of steps of which just one is always marked, however the transitions fire."""
    if wrong_place(chain, lot) is not None or many_in(chain.marked, lot) != 1:
        return False
    for froms, _, tos in chain.transitions:
        if many_in(froms, lot) != many_in(tos, lot) or many_in(froms, lot) > 1:
            return False
    return True


def _machine_of_lot(chain, lot):
    """The machine of a lot: its steps in the chain's order, the marked one and the first one exchanged."""
    steps = [step for step in chain.steps if step in lot]
    at = [step in chain.marked for step in steps].index(True)
    steps[0], steps[at] = steps[at], steps[0]
    numbers = {step: number for number, step in enumerate(steps)}
    arrows = []
    for place, (froms, _, tos) in enumerate(chain.transitions):
        begins = [numbers[step] for step in froms if step in numbers]
        ends = [numbers[step] for step in tos if step in numbers]
        arrows.extend([(begin, f"t{place}", end) for begin, end in zip(begins, ends)])
    return (len(steps), tuple(arrows))


def plant_of_chain(chain, lots):
    """The plant of a chain: a machine for each lot, a change for each transition."""
    if not is_listed(lots):
        raise BadLot(-1)
    for place, lot in enumerate(lots):
        if not _is_machine_lot(chain, lot):
            raise BadLot(place)
    met = {step: True for lot in lots for step in lot}
    if len(met) < len(chain.steps):
        raise BadLot(-1)
    return Plant([_machine_of_lot(chain, lot) for lot in lots], 0, ())
