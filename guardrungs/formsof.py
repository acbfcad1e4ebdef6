"""Machines written back as books of rungs, sheets and step chains."""

from guardrungs.books import Fresh, fresh_names
from guardrungs.chains import Chain
from guardrungs.decisions import choice
from guardrungs.errors import TooMany
from guardrungs.rungs import Rungs
from guardrungs.sheets import Sheet


class Formulas:
    """Writes functions, told by their columns, as formulas; what has been made once is used again."""

    def __init__(self, names):
        self.names = names
        self.made = {}

    def told(self, column, place):
        """The formula of the function of the names from place on."""
        cases = 1 << (len(self.names) - place)
        if column == 0 or column == (1 << cases) - 1:
            return self.constant(column & 1)
        low = column & ((1 << (cases // 2)) - 1)
        high = column >> (cases // 2)
        if low == high:
            return self.told(low, place + 1)
        if (place, column) not in self.made:
            name = self.names[place]
            self.made[(place, column)] = self.chosen(name, self.told(low, place + 1), self.told(high, place + 1))
        return self.made[(place, column)]

    def constant(self, bit):
        """What tells this bit."""
        return ("bit", bit)

    def chosen(self, name, low, high):
        """What is low where the name is 0 and high where it is 1."""
        return choice(name, low, high)


class Blocks(Formulas):
    """Writes functions as blocks instead: what tells a function is a wire."""

    def __init__(self, names, taken):
        super().__init__(names)
        self.fresh = Fresh("w", taken)
        self.blocks = []
        self.bits = {}

    def block(self, kind, reads):
        """The wire of a new block."""
        wire = self.fresh.new()
        self.blocks.append((wire, kind, reads, 0))
        return wire

    def constant(self, bit):
        """The wire of this bit."""
        if bit not in self.bits:
            self.bits[bit] = self.block("one" if bit == 1 else "zero", ())
        return self.bits[bit]

    def chosen(self, name, low, high):
        """The wire that is low where the name is 0 and high where it is 1."""
        return self.block("choose", (name, low, high))


def _check_size(machine, standings, inputs):
    if len(machine.rows) > standings:
        raise TooMany(standings)
    if len(machine.inputs) > inputs:
        raise TooMany(inputs)
    if len(machine.outputs) > 6:
        raise TooMany(6)


def _taken(machine):
    return {name: True for name in machine.inputs + machine.outputs}


def _code_length(machine):
    """The least number of bits that are enough for a code of each standing."""
    return (len(machine.rows) - 1).bit_length()


def _filled(parts, many):
    """The parts and, up to so many, parts that make the choices few: they are of codes that no standing has."""
    if many == 1:
        return parts
    half = many // 2
    if len(parts) <= half:
        return _filled(parts, half) * 2
    return parts[:half] + _filled(parts[half:], half)


def _column(machine, lists):
    """One column for all codes and readings, from the bits for each standing and each reading."""
    parts = []
    for bits in lists:
        part = 0
        for case, bit in enumerate(bits):
            part = part | (bit << case)
        parts.append(part)
    column = 0
    width = 1 << len(machine.inputs)
    for at, part in enumerate(_filled(parts, 1 << _code_length(machine))):
        column = column | (part << (at * width))
    return column


def _code_columns(machine):
    """For each bit of the code, the highest first, its column behind the cycle; the code is a standing's number."""
    many = _code_length(machine)
    standings = [[behind for _, behind in row] for row in machine.rows]
    places = range(many - 1, -1, -1)
    return [_column(machine, [[(behind >> place) & 1 for behind in row] for row in standings]) for place in places]


def _answer_columns(machine):
    """For each output its column."""
    places = range(len(machine.outputs))
    return [_column(machine, [[answer[place] for answer, _ in row] for row in machine.rows]) for place in places]


def rungs_of(machine):
    """The machine as a book of rungs: the code of the next standing, the answer, then the code of the standing."""
    _check_size(machine, 500, 9)
    taken = _taken(machine)
    codes = fresh_names("c", _code_length(machine), taken)
    laid_by = fresh_names("n", len(codes), taken)
    formulas = Formulas(codes + list(machine.inputs))
    rungs = []
    for name, column in zip(laid_by, _code_columns(machine)):
        rungs.append((formulas.told(column, 0), (("put", name),)))
    for name, column in zip(machine.outputs, _answer_columns(machine)):
        rungs.append((formulas.told(column, 0), (("put", name),)))
    rungs.extend([(("name", laid), (("put", code),)) for laid, code in zip(laid_by, codes)])
    return Rungs(machine.inputs, machine.outputs, codes + laid_by, rungs)


def sheet_of(machine):
    """The machine as a sheet: a cell for each bit of the code of the standing."""
    _check_size(machine, 64, 6)
    taken = _taken(machine)
    codes = fresh_names("c", _code_length(machine), taken)
    blocks = Blocks(codes + list(machine.inputs), taken)
    wires = [blocks.told(column, 0) for column in _code_columns(machine)]
    wiring = [(name, blocks.told(column, 0)) for name, column in zip(machine.outputs, _answer_columns(machine))]
    cells = [(code, "cell", (wire,), 0) for code, wire in zip(codes, wires)]
    return Sheet(machine.inputs, cells + blocks.blocks, wiring)


def _pairs_met(machine):
    """The pairs (answer, next) that come, as met; ahead of them one for the start if none leads to standing 0."""
    met = {0: True}
    left = [0]
    pairs = {}
    while left:
        standing = left.pop()
        for answer, behind in machine.rows[standing]:
            pairs[(answer, behind)] = True
            if behind not in met:
                met[behind] = True
                left.append(behind)
    told = list(pairs)
    return told if 0 in [behind for _, behind in told] else [((), 0)] + told


def _leaving(machine, standing, formulas):
    """For each pair of the standing's row the formula of the readings that lead to it."""
    columns = {}
    for case, pair in enumerate(machine.rows[standing]):
        columns[pair] = columns.get(pair, 0) | (1 << case)
    return [(pair, formulas.told(column, 0)) for pair, column in columns.items()]


def chain_of(machine):
    """The machine as a chain: a step for each pair of an answer and a next standing."""
    _check_size(machine, 64, 6)
    pairs = _pairs_met(machine)
    names = fresh_names("s", len(pairs), _taken(machine))
    steps = {pair: step for pair, step in zip(pairs, names)}
    formulas = Formulas(machine.inputs)
    leaving = {}
    for _, standing in pairs:
        if standing not in leaving:
            leaving[standing] = _leaving(machine, standing, formulas)
    transitions = []
    for pair, step in steps.items():
        transitions.extend([((step,), formula, (steps[behind],)) for behind, formula in leaving[pair[1]]])
    actions = []
    for (answer, _), step in steps.items():
        shown = [name for name, bit in zip(machine.outputs, answer) if bit == 1]
        actions.extend([("show", step, name, 0, None) for name in shown])
    marked = [steps[pair] for pair in pairs if pair[1] == 0][:1]
    return Chain(machine.inputs, machine.outputs, names, marked, transitions, actions)
