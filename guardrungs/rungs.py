"""Books of rungs."""

from guardrungs.bits import is_order, is_whole, told_groups
from guardrungs.books import Book, check_names
from guardrungs.errors import BadBook, BadName, BadNumber
from guardrungs.formulas import EDGES, JOINTS, is_formula, told_edges, worked
from guardrungs.ticks import counter_cases, is_counter, is_timer, timer_cases, timer_start

WRITES = ("put", "not", "set", "reset")


def _first_names(rows, many):
    """The first part of each tuple of so many parts, None for what is no such tuple."""
    return [row[0] if isinstance(row, tuple) and len(row) == many else None for row in rows]


class RungCycle:
    """One cycle of a book of rungs, for all cases at once: each bit is a column."""

    def __init__(self, book, standing, columns, full):
        self.full = full
        self.bits = {name: column for name, column in zip(book.inputs, columns)}
        self.counts = {}
        self.counted_last = {}
        self.timers = {name: (kind, number) for name, kind, number in book.timers}
        self.counters = {name: number for name, number in book.counters}
        at = 0
        for name in list(book.outputs + book.cells):
            self.bits[name] = full * standing[at]
            at += 1
        for name, _, _ in list(book.timers):
            self.counts[name] = standing[at]
            self.bits[name] = full * standing[at + 1]
            at += 2
        for name, number in list(book.counters):
            self.counts[name] = standing[at]
            self.counted_last[name] = standing[at + 1]
            self.bits[name] = full if standing[at] == number else 0
            at += 2
        self.seen = [full * bit for bit in standing[at:]]

    def work(self, rung, edges, seen):
        """Work one rung; seen is what it saw last of its edges' names. What it sees now is returned."""
        formula, deeds = rung
        old = {name: column for name, column in zip(edges, seen)}
        now = [self.bits[name] for name in edges]
        column = worked(formula, self.bits, old, self.full)
        for deed in deeds:
            self.do(deed, column)
        return now

    def do(self, deed, column):
        """Do what one deed says."""
        word, name = deed[0], deed[1]
        if word == "put":
            self.bits[name] = column
        elif word == "not":
            self.bits[name] = self.full ^ column
        elif word == "set":
            self.bits[name] = self.bits[name] | column
        elif word == "reset":
            self.bits[name] = self.bits[name] & (self.full ^ column)
        elif word == "feed":
            kind, number = self.timers[name]
            bits, counts = timer_cases(kind, number, self.counts[name], column, self.full)
            self.bits[name] = bits
            self.counts[name] = counts
        else:
            self.work_counter(name, column, self.bits[deed[2]] if deed[2] != "" else 0)

    def work_counter(self, name, column, clear):
        """Work a counter with its bit and its clearing bit."""
        last = self.counted_last[name]
        bits, counts = counter_cases(self.counters[name], self.counts[name], last, column, clear, self.full)
        self.bits[name] = bits
        self.counts[name] = counts
        self.counted_last[name] = column


class Rungs(Book):
    """A book of rungs, worked in their order in each cycle."""

    def __init__(self, inputs, outputs, cells, rungs, *, timers=(), counters=()):
        self.inputs = tuple(inputs)
        self.outputs = tuple(outputs)
        self.cells = tuple(cells)
        self.rungs = tuple(rungs)
        self.timers = tuple(timers)
        self.counters = tuple(counters)
        self._check()
        self._edges = [told_edges(formula) for formula, _ in self.rungs]

    def _check(self):
        timers = _first_names(self.timers, 3)
        counters = _first_names(self.counters, 2)
        names = self.inputs + self.outputs + self.cells + tuple(timers) + tuple(counters)
        check_names(names)
        for place, (_, kind, number) in enumerate(self.timers):
            if not is_timer(kind, number):
                raise BadBook("timer", place)
        for place, (_, number) in enumerate(self.counters):
            if not is_counter(number):
                raise BadBook("counter", place)
        known = {name: "" for name in names}
        known.update({name: "write" for name in self.outputs + self.cells})
        known.update({name: "feed" for name in timers})
        known.update({name: "count" for name in counters})
        for place, rung in enumerate(self.rungs):
            if not _is_rung(rung, known):
                raise BadBook("rung", place)
        self._check_worked("feed", timers, "fed")
        self._check_worked("count", counters, "counted")

    def _check_worked(self, deed_word, names, word):
        """Each of these timers or counters must be worked by just one deed."""
        times = {name: 0 for name in names}
        for _, deeds in self.rungs:
            for deed in deeds:
                if deed[0] == deed_word:
                    times[deed[1]] += 1
        for place, name in enumerate(names):
            if times[name] != 1:
                raise BadBook(word, place)

    def start(self):
        """All 0, but the counts of timers off."""
        standing = [0] * len(self.outputs + self.cells)
        for _, kind, number in self.timers:
            standing.extend([timer_start(kind, number), 0])
        standing.extend([0, 0] * len(self.counters))
        for edges in self._edges:
            standing.extend([0] * len(edges))
        return tuple(standing)

    def step(self, standing, reading):
        """The answer and the next standing."""
        return self.groups(standing, self.checked(reading), 1)[0][:2]

    def groups(self, standing, columns, full):
        """For groups of cases answer, next standing and column."""
        cycle = RungCycle(self, standing, columns, full)
        seen = []
        for rung, edges in zip(self.rungs, self._edges):
            at = len(seen)
            seen.extend(cycle.work(rung, edges, cycle.seen[at:at + len(edges)]))
        return self._ended(cycle, seen)

    def _ended(self, cycle, seen):
        """For groups of cases the answer, the standing behind the cycle and the column."""
        answers = [cycle.bits[name] for name in self.outputs]
        kept = answers + [cycle.bits[name] for name in self.cells]
        for name, _, _ in list(self.timers):
            kept.extend([cycle.counts[name], cycle.bits[name]])
        for name, _ in list(self.counters):
            kept.extend([cycle.counts[name], cycle.counted_last[name]])
        return told_groups(answers, kept + seen, cycle.full)

    def bit_in(self, standing, name):
        """The bit of this output, cell, timer or counter in the standing."""
        written = self.outputs + self.cells
        if name in written:
            return standing[written.index(name)]
        at = len(written)
        for timer, _, _ in self.timers:
            if timer == name:
                return standing[at + 1]
            at += 2
        for counter, number in self.counters:
            if counter == name:
                return 1 if standing[at] == number else 0
            at += 2
        raise BadName(name)

    def without(self, place):
        """The book without this rung and without the timers and counters worked there."""
        if not is_whole(place, 0, len(self.rungs) - 1):
            raise BadNumber("place")
        gone = {deed[1]: True for deed in self.rungs[place][1] if deed[0] not in WRITES}
        rungs = [_rung_without(rung, gone) for at, rung in enumerate(self.rungs) if at != place]
        timers = [timer for timer in self.timers if timer[0] not in gone]
        counters = [counter for counter in self.counters if counter[0] not in gone]
        return Rungs(self.inputs, self.outputs, self.cells, rungs, timers=timers, counters=counters)

    def in_order(self, order):
        """The same book with the rungs in this order."""
        if not is_order(order, len(self.rungs)):
            raise BadNumber("order")
        rungs = [self.rungs[place] for place in order]
        return Rungs(self.inputs, self.outputs, self.cells, rungs, timers=self.timers, counters=self.counters)


def _is_rung(rung, known):
    """True for a rung of a book with these names, a dict from names to what deeds do with them."""
    if not isinstance(rung, tuple) or len(rung) != 2 or not is_formula(rung[0], known):
        return False
    return isinstance(rung[1], tuple) and all([_is_deed(deed, known) for deed in rung[1]])


def _is_deed(deed, known):
    if not isinstance(deed, tuple) or not 2 <= len(deed) <= 3 or not isinstance(deed[1], str):
        return False
    use = known.get(deed[1], "")
    if len(deed) == 2:
        return (use == "write" and deed[0] in WRITES) or (use == "feed" and deed[0] == "feed")
    if use != "count" or deed[0] != "count" or not isinstance(deed[2], str):
        return False
    return deed[2] == "" or deed[2] in known


def _rung_without(rung, gone):
    formula, deeds = rung
    return (_formula_without(formula, gone), tuple([_deed_without(deed, gone) for deed in deeds]))


def _formula_without(formula, gone):
    kind, inside = formula
    if kind in JOINTS:
        return (kind, tuple([_formula_without(part, gone) for part in inside]))
    if kind == "not":
        return (kind, _formula_without(inside, gone))
    return ("bit", 0) if (kind == "name" or kind in EDGES) and inside in gone else formula


def _deed_without(deed, gone):
    if deed[0] == "count" and deed[2] in gone:
        return (deed[0], deed[1], "")
    return deed
