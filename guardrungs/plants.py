"""Plants: machines that move by changes, what drives these, and what the inputs show."""

from guardrungs.bits import check_row, is_bit, is_listed, is_whole
from guardrungs.errors import BadNumber, BadPlant
from guardrungs.formulas import is_name


def _is_machine(machine):
    if not isinstance(machine, tuple) or len(machine) != 2 or not is_whole(machine[0], 1, None):
        return False
    size, arrows = machine
    if not isinstance(arrows, tuple):
        return False
    met = {}
    for arrow in arrows:
        if not isinstance(arrow, tuple) or len(arrow) != 3 or not is_name(arrow[1]):
            return False
        if not is_whole(arrow[0], 0, size - 1) or not is_whole(arrow[2], 0, size - 1) or arrow[:2] in met:
            return False
        met[arrow[:2]] = True
    return True


def is_rising(row, least, most):
    """True if these are integers from least to most (None: without end), each greater than the one ahead."""
    if not all([is_whole(number, least, most) for number in row]):
        return False
    return all([number < other for number, other in zip(row, row[1:])])


class Plant:
    """Machines side by side, their changes, drivers and inputs."""

    def __init__(self, machines, outputs, inputs, *, drivers=()):
        self._check_machines(machines)
        if not is_whole(outputs, 0, None):
            raise BadPlant("outputs", -1)
        self.machines = tuple(machines)
        self.outputs = outputs
        self.origin = (0,) * len(self.machines)
        self._ways = []
        self._having = {}
        for number, (_, arrows) in list(enumerate(self.machines)):
            self._ways.append({(begin, change): end for begin, change, end in arrows})
            for change in sorted({change for _, change, _ in arrows}):
                self._having[change] = self._having.get(change, ()) + (number,)
        firsts = {change: True for _, arrows in self.machines for _, change, _ in arrows}
        self.changes = tuple(list(firsts))
        self._check_inputs(inputs)
        self.inputs = tuple(inputs)
        self._driven = {}
        self._check_drivers(drivers)
        self.drivers = tuple(drivers)

    def _check_machines(self, machines):
        if not is_listed(machines) or len(machines) == 0:
            raise BadPlant("machine", -1)
        for place, machine in enumerate(machines):
            if not _is_machine(machine):
                raise BadPlant("machine", place)

    def _check_inputs(self, inputs):
        if not is_listed(inputs):
            raise BadPlant("input", -1)
        for place, told in enumerate(inputs):
            if not isinstance(told, tuple) or not (self._is_level(told) or self._is_mark(told)):
                raise BadPlant("input", place)

    def _is_level(self, told):
        if len(told) != 3 or told[0] != "level" or not is_whole(told[1], 0, len(self.machines) - 1):
            return False
        return isinstance(told[2], tuple) and is_rising(told[2], 0, self.machines[told[1]][0] - 1)

    def _is_mark(self, told):
        if len(told) != 2 or told[0] != "mark" or not isinstance(told[1], tuple):
            return False
        if not all([self._is_change(change) for change in told[1]]):
            return False
        return len(set(told[1])) == len(told[1])

    def _is_change(self, change):
        return isinstance(change, str) and change in self._having

    def _check_drivers(self, drivers):
        """Look at the drivers and keep what drives each change."""
        if not is_listed(drivers):
            raise BadPlant("driver", -1)
        for place, driver in list(enumerate(drivers)):
            if not isinstance(driver, tuple) or len(driver) != 3 or not self._is_change(driver[0]):
                raise BadPlant("driver", place)
            change, output, bit = driver
            if change in self._driven or not is_whole(output, 0, self.outputs - 1) or not is_bit(bit):
                raise BadPlant("driver", place)
            self._driven[change] = (output, bit)

    def lets(self, change, row):
        """True if the change is free or its driver lets it come under the row."""
        if change not in self._driven:
            return True
        output, bit = self._driven[change]
        return row[output] == bit

    def led(self, standing, change):
        """The plant standing behind a change of the plant; None if a machine that has it has no arrow by it."""
        behind = list(standing)
        for number in self._having[change]:
            ways = self._ways[number]
            if (behind[number], change) not in ways:
                return None
            behind[number] = ways[(behind[number], change)]
        return tuple(behind)

    def possible(self, standing, row):
        """The changes that are possible under the row, in the plant's order."""
        told = check_row(row, self.outputs)
        changes = [change for change in self.changes if self.lets(change, told)]
        return tuple([change for change in changes if self.led(standing, change) is not None])

    def after_change(self, standing, change):
        """The plant standing behind the change."""
        behind = self.led(standing, change) if self._is_change(change) else None
        if behind is None:
            raise BadNumber("change")
        return behind

    def level_row(self, standing):
        """The row of the inputs' bits at this standing, marks 0."""
        return self.reading_of(standing, ())

    def reading_of(self, standing, changes):
        """The true reading at this standing if these changes have come since the last one."""
        come = {change: True for change in changes}
        row = []
        for told in self.inputs:
            if told[0] == "level":
                row.append(1 if standing[told[1]] in told[2] else 0)
            else:
                row.append(1 if any([change in come for change in told[1]]) else 0)
        return tuple(row)

    @property
    def free_changes(self):
        """The changes that no driver has."""
        return tuple([change for change in self.changes if change not in self._driven])

    def joined(self, other):
        """Both plants side by side."""
        many = len(self.machines)
        machines = [_renamed(machine, "a.") for machine in self.machines]
        machines.extend([_renamed(machine, "b.") for machine in other.machines])
        inputs = [_moved_input(told, 0, "a.") for told in self.inputs]
        inputs.extend([_moved_input(told, many, "b.") for told in other.inputs])
        drivers = [("a." + change, output, bit) for change, output, bit in self.drivers]
        drivers.extend([("b." + change, self.outputs + output, bit) for change, output, bit in other.drivers])
        return Plant(machines, self.outputs + other.outputs, inputs, drivers=drivers)


def _renamed(machine, prefix):
    size, arrows = machine
    return (size, tuple([(begin, prefix + change, end) for begin, change, end in arrows]))


def _moved_input(told, many, prefix):
    """The input with its machine's number greater by many and the prefix ahead of its changes."""
    if told[0] == "level":
        return ("level", told[1] + many, told[2])
    return ("mark", tuple([prefix + change for change in told[1]]))
