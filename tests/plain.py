"""A second reading of the rules, one case at a time and word by word, and books made by chance to compare with it."""

import itertools
import random


def rows(many):
    return list(itertools.product((0, 1), repeat=many))


def bit(formula, bits, seen=None):
    kind, inside = formula
    if kind == "bit":
        return inside
    if kind == "name":
        return bits[inside]
    if kind == "not":
        return 1 - bit(inside, bits, seen)
    if kind == "and":
        return min([bit(part, bits, seen) for part in inside])
    if kind == "or":
        return max([bit(part, bits, seen) for part in inside])
    if kind == "rise":
        return 1 if bits[inside] == 1 and seen[inside] == 0 else 0
    return 1 if bits[inside] == 0 and seen[inside] == 1 else 0


def leaves(formula):
    if formula[0] in ("and", "or"):
        return [leaf for part in formula[1] for leaf in leaves(part)]
    if formula[0] == "not":
        return leaves(formula[1])
    return [formula]


def names(formula):
    return sorted({leaf[1] for leaf in leaves(formula) if leaf[0] != "bit"})


def edges(formula):
    return sorted({leaf[1] for leaf in leaves(formula) if leaf[0] in ("rise", "fall")})


def depth(formula):
    if formula[0] in ("and", "or"):
        return 1 + max([depth(part) for part in formula[1]])
    return 1 + depth(formula[1]) if formula[0] == "not" else 1


class Timer:
    """Told by what its bits were, not by counts."""

    def __init__(self, kind, number):
        self.kind, self.number = kind, number
        self.bits = []
        self.left = 0
        self.out = 0

    def work(self, value):
        last = self.bits[-1] if self.bits else 0
        self.bits.append(value)
        padded = [0] * (self.number + 1) + self.bits
        window = padded[-1 - self.number:]
        if self.kind == "on":
            self.out = min(window)
        elif self.kind == "off":
            self.out = max(window)
        else:
            if self.left > 0:
                self.left -= 1
                self.out = 1
            elif value == 1 and last == 0:
                self.left = self.number - 1
                self.out = 1
            else:
                self.out = 0
        return self.out


class Counter:
    def __init__(self, number):
        self.number = number
        self.count = 0
        self.last = 0

    def work(self, value, clear):
        if clear:
            self.count = 0
        elif value == 1 and self.last == 0:
            self.count = min(self.count + 1, self.number)
        self.last = value

    @property
    def out(self):
        return 1 if self.count == self.number else 0


def run_rungs(book, readings):
    """The answers of a book of rungs, and behind each cycle the bits of all its names."""
    bits = {name: 0 for name in book.outputs + book.cells}
    timers = {name: Timer(kind, number) for name, kind, number in book.timers}
    counters = {name: Counter(number) for name, number in book.counters}
    seen = [{name: 0 for name in edges(formula)} for formula, _ in book.rungs]
    answers, shown = [], []
    for reading in readings:
        bits.update(zip(book.inputs, reading))
        for place, (formula, deeds) in enumerate(book.rungs):
            now = dict(bits)
            now.update({name: timer.out for name, timer in timers.items()})
            now.update({name: counter.out for name, counter in counters.items()})
            value = bit(formula, now, seen[place])
            seen[place] = {name: now[name] for name in seen[place]}
            for deed in deeds:
                if deed[0] == "put":
                    bits[deed[1]] = value
                elif deed[0] == "not":
                    bits[deed[1]] = 1 - value
                elif deed[0] == "set":
                    bits[deed[1]] = 1 if value else bits[deed[1]]
                elif deed[0] == "reset":
                    bits[deed[1]] = 0 if value else bits[deed[1]]
                elif deed[0] == "feed":
                    timers[deed[1]].work(value)
                else:
                    clear = 0
                    if deed[2] in timers:
                        clear = timers[deed[2]].out
                    elif deed[2] in counters:
                        clear = counters[deed[2]].out
                    elif deed[2] != "":
                        clear = bits[deed[2]]
                    counters[deed[1]].work(value, clear)
        answers.append(tuple(bits[name] for name in book.outputs))
        all_bits = dict(bits)
        all_bits.update({name: timer.out for name, timer in timers.items()})
        all_bits.update({name: counter.out for name, counter in counters.items()})
        shown.append(all_bits)
    return tuple(answers), shown


def run_sheet(sheet, readings, order=None):
    """The answers of a sheet, and in each cycle the bits of all wires; order is any order of the direct blocks."""
    order = sheet.order if order is None else order
    cells = {block[0]: 0 for block in sheet.blocks if block[1] in ("cell", "hold")}
    timers = {b[0]: Timer(b[1], b[3]) for b in sheet.blocks if b[1] in ("on", "off", "pulse")}
    counters = {b[0]: Counter(b[3]) for b in sheet.blocks if b[1] == "count"}
    answers, shown = [], []
    for reading in readings:
        bits = dict(zip(sheet.inputs, reading))
        bits.update({b[0]: cells[b[0]] for b in sheet.blocks if b[1] == "cell"})
        for place in order:
            wire, kind, wires, _ = sheet.blocks[place]
            r = [bits[name] for name in wires]
            if kind in ("on", "off", "pulse"):
                bits[wire] = timers[wire].work(r[0])
            elif kind == "count":
                counters[wire].work(r[0], r[1])
                bits[wire] = counters[wire].out
            elif kind == "hold":
                bits[wire] = 1 if r[1] == 0 and (r[0] or cells[wire]) else 0
                cells[wire] = bits[wire]
            else:
                bits[wire] = {
                    "zero": lambda: 0, "one": lambda: 1, "not": lambda: 1 - r[0], "and": lambda: r[0] * r[1],
                    "or": lambda: max(r), "odd": lambda: (r[0] + r[1]) % 2, "choose": lambda: r[2] if r[0] else r[1],
                }[kind]()
        for wire, kind, wires, _ in sheet.blocks:
            if kind == "cell":
                cells[wire] = bits[wires[0]]
        answers.append(tuple(bits[wire] for _, wire in sheet.wiring))
        shown.append(bits)
    return tuple(answers), shown


def run_chain(chain, readings):
    """The answers of a chain, and behind each cycle (marks, ages, bits, fired)."""
    marks = set(chain.marked)
    ages = {step: -1 for step in chain.marked}
    bits = {name: 0 for name in chain.outputs + chain.cells}
    seen = [{name: 0 for name in edges(formula)} for _, formula, _ in chain.transitions]
    top = max([n for action in chain.actions for n in action[3:] if n is not None] + [0])
    answers, shown = [], []
    for reading in readings:
        now = dict(bits)
        now.update(zip(chain.inputs, reading))
        now.update({step: 1 if step in marks else 0 for step in chain.steps})
        taken, given, fired = set(), set(), []
        for place, (froms, formula, tos) in enumerate(chain.transitions):
            value = bit(formula, now, seen[place])
            seen[place] = {name: now[name] for name in seen[place]}
            if value == 1 and set(froms) <= marks and not set(froms) & taken:
                taken |= set(froms)
                given |= set(tos)
                fired.append(place)
        stays = {step for step in marks if step not in taken and step not in given}
        ages = {step: min(ages[step] + 1, top) for step in stays}
        ages.update({step: 0 for step in given})
        marks = stays | given
        for name in chain.outputs + chain.cells:
            actions = [action for action in chain.actions if action[2] == name and action[1] in marks]
            if any(action[0] == "show" for action in chain.actions if action[2] == name):
                bits[name] = 0
                for _, step, _, least, end in actions:
                    if ages[step] >= least and (end is None or ages[step] < end):
                        bits[name] = 1
            else:
                bits[name] = 1 if any(action[0] == "set" for action in actions) else bits[name]
                bits[name] = 0 if any(action[0] == "reset" for action in actions) else bits[name]
        answers.append(tuple(bits[name] for name in chain.outputs))
        shown.append((set(marks), dict(ages), dict(bits), tuple(fired)))
    return tuple(answers), shown


class Chance:
    """Books made by chance; the same number gives the same books."""

    def __init__(self, number):
        self.random = random.Random(number)

    def pick(self, things):
        return self.random.choice(list(things))

    def some(self, things, least, most):
        things = list(things)
        most = min(most, len(things))
        return tuple(self.random.sample(things, self.random.randint(min(least, most), most)))

    def reading(self, many):
        return tuple(self.random.randint(0, 1) for _ in range(many))

    def readings(self, many, length):
        # Readings that often stay as they are let timers run out.
        told = []
        for _ in range(length):
            if told and self.random.random() < 0.4:
                told.append(told[-1])
            else:
                told.append(self.reading(many))
        return tuple(told)

    def formula(self, known, deep, with_edges=True):
        if deep <= 1 or self.random.random() < 0.2:
            if not known or self.random.random() < 0.08:
                return ("bit", self.random.randint(0, 1))
            kind = self.pick(("name", "name", "name", "rise", "fall")) if with_edges else "name"
            return (kind, self.pick(known))
        kind = self.pick(("not", "and", "or"))
        if kind == "not":
            return ("not", self.formula(known, deep - 1, with_edges))
        parts = self.random.randint(2, 3)
        return (kind, tuple(self.formula(known, deep - 1, with_edges) for _ in range(parts)))

    def timer_kind(self, most=4):
        kind = self.pick(("on", "off", "pulse"))
        return kind, self.random.randint(1 if kind == "pulse" else 0, most)

    def rungs(self, rungs=6, inputs=2, outputs=2, cells=2, timers=1, counters=1, deep=3, with_edges=True):
        from guardrungs.rungs import Rungs
        ins = [f"i{k}" for k in range(inputs)]
        outs = [f"x{k}" for k in range(outputs)]
        kept = [f"c{k}" for k in range(cells)]
        clocks = [(f"t{k}",) + self.timer_kind() for k in range(timers)]
        counts = [(f"u{k}", self.random.randint(1, 3)) for k in range(counters)]
        known = ins + outs + kept + [t[0] for t in clocks] + [u[0] for u in counts]
        told = []
        for _ in range(rungs):
            deeds = []
            for _ in range(self.random.randint(0, 2)):
                if outs + kept:
                    deeds.append((self.pick(("put", "put", "not", "set", "reset")), self.pick(outs + kept)))
            told.append([self.formula(known, deep, with_edges), deeds])
        for timer in clocks:
            place = self.random.randrange(rungs)
            told[place][1].insert(self.random.randint(0, len(told[place][1])), ("feed", timer[0]))
        for counter in counts:
            place = self.random.randrange(rungs)
            clear = self.pick(["", ""] + known)
            told[place][1].insert(self.random.randint(0, len(told[place][1])), ("count", counter[0], clear))
        told = [(formula, tuple(deeds)) for formula, deeds in told]
        return Rungs(ins, outs, kept, told, timers=clocks, counters=counts)

    def sheet(self, blocks=8, inputs=2, outputs=2, timed=True):
        from guardrungs.sheets import READS, Sheet, order_of
        ins = [f"i{k}" for k in range(inputs)]
        wires = [f"w{k}" for k in range(blocks)]
        while True:
            told = []
            for wire in wires:
                kind = self.pick(READS)
                if not timed and kind in ("on", "off", "pulse", "count"):
                    kind = "odd"
                number = 0
                if kind in ("on", "off", "pulse"):
                    number = self.random.randint(1, 3)
                elif kind == "count":
                    number = self.random.randint(1, 3)
                told.append((wire, kind, tuple(self.pick(ins + wires) for _ in range(READS[kind])), number))
            if order_of(ins, told) is not None:
                return Sheet(ins, told, [(f"x{k}", self.pick(ins + wires)) for k in range(outputs)])

    def chain(self, steps=4, transitions=5, inputs=2, outputs=2, cells=1, actions=5, deep=3, with_edges=True):
        from guardrungs.chains import Chain
        ins = [f"i{k}" for k in range(inputs)]
        outs = [f"x{k}" for k in range(outputs)]
        kept = [f"c{k}" for k in range(cells)]
        marks = [f"s{k}" for k in range(steps)]
        known = ins + outs + kept + marks
        told = []
        for _ in range(transitions):
            formula = self.formula(known, deep, with_edges)
            told.append((self.some(marks, 1, 2), formula, self.some(marks, 1, 2)))
        acts, sorts = [], {}
        for _ in range(actions):
            name, step = self.pick(outs + kept), self.pick(marks)
            show = sorts.setdefault(name, self.random.random() < 0.6)
            if show:
                least = self.random.randint(0, 3)
                acts.append(("show", step, name, least, self.pick([None, least + 1, least + 2])))
            else:
                acts.append((self.pick(("set", "reset")), step, name))
        return Chain(ins, outs, marks, self.some(marks, 1, 2), told, acts, cells=kept)

    def machine(self, standings, inputs, outputs):
        from guardrungs.machines import Machine
        many = self.random.randint(1, 4)
        answers = [self.reading(outputs) for _ in range(many)]
        return Machine.of_rows(inputs, outputs, [
            [(self.pick(answers), self.random.randrange(standings)) for _ in range(1 << inputs)]
            for _ in range(standings)])
