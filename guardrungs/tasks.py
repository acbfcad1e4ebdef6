"""Whole tasks: books that run at unlike periods, one behind the other."""

from math import lcm

from guardrungs.bits import is_order, is_whole, told_groups
from guardrungs.books import Book
from guardrungs.errors import BadBook, BadNumber, TooMany
from guardrungs.formulas import is_name


def is_time(period, offset, most):
    """True for integers with 0 <= offset < period <= most."""
    return is_whole(period, 1, most) and is_whole(offset, 0, period - 1)


def _is_task(task):
    if not isinstance(task, tuple) or len(task) != 3 or not isinstance(task[0], Book):
        return False
    return is_time(task[1], task[2], 12)


class Tasks(Book):
    """Whole tasks in a rank order; a cycle is a tick."""

    def __init__(self, inputs, outputs, tasks):
        if len(tasks) > 4:
            raise TooMany(4)
        self.inputs = tuple(inputs)
        self.outputs = tuple(outputs)
        self.tasks = tuple(tasks)
        self._check_inputs()
        self.written = self._told_written()
        self._check_reads()
        self._check_outputs()
        self.common = 1
        for _, period, _ in self.tasks:
            self.common = lcm(self.common, period)
        self.lengths = [len(book.start()) for book, _, _ in self.tasks]

    def _check_inputs(self):
        met = {}
        for place, name in enumerate(self.inputs):
            if not is_name(name) or name in met:
                raise BadBook("name", place)
            met[name] = True

    def _told_written(self):
        """The written names, if the tasks have the form of tasks and write unlike names."""
        taken = {name: True for name in self.inputs}
        written = []
        for place, task in enumerate(self.tasks):
            if not _is_task(task) or any([name in taken for name in task[0].outputs]):
                raise BadBook("task", place)
            taken.update({name: True for name in task[0].outputs})
            written.extend(list(task[0].outputs))
        return tuple(written)

    def _check_reads(self):
        known = {name: True for name in self.inputs + self.written}
        for place, (book, _, _) in enumerate(self.tasks):
            if not all([name in known for name in book.inputs]):
                raise BadBook("task", place)

    def _check_outputs(self):
        known = {name: True for name in self.written}
        met = {}
        for place, name in enumerate(self.outputs):
            if not isinstance(name, str) or name not in known or name in met:
                raise BadBook("output", place)
            met[name] = True

    def start(self):
        """Tick 0; all written names are 0, and all books stand at their starts."""
        told = (0,) * (1 + len(self.written))
        for book, _, _ in self.tasks:
            told = told + tuple(book.start())
        return told

    def step(self, standing, reading):
        """The answer and the next standing, one tick."""
        return self.groups(standing, self.checked(reading), 1)[0][:2]

    def parted(self, standing):
        """The standings of the books."""
        told = []
        at = 1 + len(self.written)
        for many in self.lengths:
            told.append(tuple(standing[at:at + many]))
            at = at + many
        return told

    def groups(self, standing, columns, full):
        """For groups of cases answer, next standing and column."""
        tick = standing[0]
        bits = {name: column for name, column in zip(self.inputs, columns)}
        bits.update({name: full * bit for name, bit in zip(self.written, standing[1:])})
        kept = [[(behind, full)] for behind in self.parted(standing)]
        for place in self.due(tick):
            book = self.tasks[place][0]
            told = book.groups(kept[place][0][0], [bits[name] for name in book.inputs], full)
            for at, name in enumerate(book.outputs):
                bits[name] = sum([column for answer, _, column in told if answer[at] == 1])
            kept[place] = _gathered(told)
        answers = [bits[name] for name in self.outputs]
        written = [bits[name] for name in self.written]
        following = (tick + 1) % self.common
        many = len(written)
        groups = []
        for answer, row, column in told_groups(answers, written + kept, full):
            behind = (following,) + tuple(row[:many])
            for part in row[many:]:
                behind = behind + part
            groups.append((answer, behind, column))
        return groups

    def due(self, tick):
        """The places of the tasks that are due at this tick, ascending."""
        if not is_whole(tick, 0, None):
            raise BadNumber("tick")
        return tuple([place for place, (_, period, offset) in enumerate(self.tasks) if tick % period == offset])

    def in_rank(self, order):
        """The same tasks in another rank order."""
        if not is_order(order, len(self.tasks)):
            raise BadNumber("order")
        return Tasks(self.inputs, self.outputs, [self.tasks[place] for place in order])


def _gathered(groups):
    """The columns of the next standings."""
    told = {}
    for _, behind, column in groups:
        told[behind] = told.get(behind, 0) | column
    return list(told.items())
