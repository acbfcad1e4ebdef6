"""The base of all books."""

from guardrungs.bits import case_rows, check_row, columns_of, spread_groups
from guardrungs.errors import BadBook
from guardrungs.formulas import is_name


def check_names(names):
    """Raise BadBook with the first place at which no name stands or one that has been there."""
    met = {}
    for place, name in enumerate(names):
        if not is_name(name) or name in met:
            raise BadBook("name", place)
        met[name] = True


def numbered_names(prefix, many):
    """The prefix with the numbers from 0 on behind it."""
    return tuple([f"{prefix}{number}" for number in range(many)])


class Fresh:
    """Makes names that begin with a prefix and are no keys of taken, one behind the other."""

    def __init__(self, prefix, taken):
        self.prefix = prefix
        self.taken = taken
        self.number = 0

    def new(self):
        """The next name."""
        while f"{self.prefix}{self.number}" in self.taken:
            self.number += 1
        self.number += 1
        return f"{self.prefix}{self.number - 1}"


def fresh_names(prefix, many, taken):
    """So many names that begin with the prefix, none of them a key of taken."""
    fresh = Fresh(prefix, taken)
    return [fresh.new() for _ in range(many)]


class Book:
    """A controller that works in cycles. Each kind has attributes inputs and outputs."""

    def start(self):
        """The standing at the start."""
        raise NotImplementedError()

    def step(self, standing, reading):
        """The answer and the next standing."""
        raise NotImplementedError()

    def groups(self, standing, columns, full):
        """For groups of cases, the inputs' bits being told by columns, answer, next standing and column."""
        told = {}
        for case, reading in enumerate(case_rows(columns, full.bit_length())):
            pair = self.step(standing, reading)
            told[pair] = told.get(pair, 0) | (1 << case)
        return [(answer, behind, column) for (answer, behind), column in told.items()]

    def step_cases(self, standing, columns, full):
        """For each case the answer and the next standing."""
        return spread_groups(self.groups(standing, columns, full), full)

    def step_each(self, standing):
        """For each reading, in counting order, the answer and the next standing; for few inputs."""
        cases = 1 << len(self.inputs)
        return self.step_cases(standing, columns_of(len(self.inputs)), (1 << cases) - 1)

    def step_groups(self, standing):
        """For groups of readings, by their first ones, answer, next standing and the column of the readings."""
        cases = 1 << len(self.inputs)
        groups = self.groups(standing, columns_of(len(self.inputs)), (1 << cases) - 1)
        firsts = {column & -column: (answer, behind, column) for answer, behind, column in groups}
        return [firsts[first] for first in sorted(firsts)]

    def checked(self, reading):
        """The reading as a tuple."""
        return check_row(reading, len(self.inputs))

    def run_from(self, standing, readings):
        """The answers from this standing on, and the standing behind them."""
        answers = []
        for row in [self.checked(reading) for reading in readings]:
            answer, standing = self.step(standing, row)
            answers.append(answer)
        return tuple(answers), tuple(standing)

    def run(self, readings):
        """The answers from the start on."""
        return self.run_from(self.start(), readings)[0]
