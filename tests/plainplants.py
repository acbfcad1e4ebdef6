"""A second reading of the rules of plants, word by word, and plants made by chance."""

import itertools

from guardrungs.plants import Plant
from tests.plain import Chance, rows


def having(plant, change):
    return [m for m, (_, arrows) in enumerate(plant.machines) if any(arrow[1] == change for arrow in arrows)]


def changes_of(plant):
    told = []
    for _, arrows in plant.machines:
        for _, change, _ in arrows:
            if change not in told:
                told.append(change)
    return told


def led(plant, standing, change):
    """The standing behind the change, None if a machine lacks an arrow."""
    told = list(standing)
    for m in having(plant, change):
        ends = [b for a, c, b in plant.machines[m][1] if a == standing[m] and c == change]
        if not ends:
            return None
        told[m] = ends[0]
    return tuple(told)


def possible(plant, standing, row):
    told = []
    for change in changes_of(plant):
        shut = [1 for c, output, bit in plant.drivers if c == change and row[output] != bit]
        if not shut and led(plant, standing, change) is not None:
            told.append(change)
    return told


def reading_of(plant, standing, come):
    told = []
    for one in plant.inputs:
        if one[0] == "level":
            told.append(1 if standing[one[1]] in one[2] else 0)
        else:
            told.append(1 if set(one[1]) & set(come) else 0)
    return tuple(told)


def marks_of(plant, come):
    return tuple(1 if one[0] == "mark" and set(one[1]) & set(come) else 0 for one in plant.inputs)


def layer(plant, standing, row, many):
    """The pairs (come, standing) that rows of just so many changes lead to, come being the set of changes."""
    now = {(frozenset(), tuple(standing))}
    for _ in range(many):
        now = {(come | {change}, led(plant, p, change)) for come, p in now for change in possible(plant, p, row)}
    return now


def falling_pairs(plant, standing, row, least, most, bound=40):
    """The pairs (come, standing) of falling rows, with rows of at most bound changes where there is no bound."""
    told = set()
    top = bound if most is None else most
    now = {(frozenset(), tuple(standing))}
    for j in range(top + 1):
        told |= {(come, p) for come, p in now if j >= least or not possible(plant, p, row)}
        now = {(come | {change}, led(plant, p, change)) for come, p in now for change in possible(plant, p, row)}
    return told


def moves(plant, standing, row, least, most):
    pairs = falling_pairs(plant, standing, row, least, most)
    return tuple(sorted({(reading_of(plant, p, come), p) for come, p in pairs}))


def meets(plant, standing, row, least, most, never, bound=40):
    """By going through the standings that changes lead to, one layer behind the other."""
    now = {tuple(standing)}
    for _ in range(bound if most is None else most):
        now = {led(plant, p, change) for p in now for change in possible(plant, p, row)}
        if any(is_in(never, p) for p in now):
            return True
    return False


def is_in(lot, standing):
    return any(all(m < len(standing) and standing[m] == s for m, s in pattern) for pattern in lot)


def reached(plant):
    """All plant standings that changes lead to, whatever is written."""
    met, left = {plant.origin}, [plant.origin]
    while left:
        p = left.pop()
        for row in rows(plant.outputs):
            for change in possible(plant, p, row):
                q = led(plant, p, change)
                if q not in met:
                    met.add(q)
                    left.append(q)
    return met


class PlantChance(Chance):
    def plant(self, machines=2, size=3, changes=3, outputs=1, inputs=2, arrows=4, drivers=None):
        names = [f"c{k}" for k in range(changes)]
        told = []
        for _ in range(machines):
            most = self.random.randint(1, size)
            ways = {}
            for _ in range(self.random.randint(0, arrows)):
                ways.setdefault((self.random.randrange(most), self.pick(names)), self.random.randrange(most))
            told.append((most, tuple((a, c, b) for (a, c), b in ways.items())))
        have = []
        for _, row in told:
            for _, change, _ in row:
                if change not in have:
                    have.append(change)
        shown = []
        for _ in range(inputs):
            if self.random.random() < 0.6:
                m = self.random.randrange(machines)
                shown.append(("level", m, tuple(sorted(self.some(range(told[m][0]), 0, told[m][0])))))
            else:
                shown.append(("mark", self.some(have, 0, 2)))
        driven = []
        if outputs:
            for change in have:
                if self.random.random() < 0.6:
                    driven.append((change, self.random.randrange(outputs), self.random.randint(0, 1)))
        if drivers is not None:
            driven = [driver[:2] + (drivers,) for driver in driven]
        return Plant(told, outputs, shown, drivers=driven)

    def falling(self, most=3):
        least = self.random.randint(0, most)
        if self.random.random() < 0.6:
            least = 0
        return least, self.pick([None] + list(range(least, most + 1)))

    def lot(self, plant, least=0, most=2):
        told = []
        for _ in range(self.random.randint(least, most)):
            machines = sorted(self.some(range(len(plant.machines)), 1, 2))
            told.append(tuple((m, self.random.randrange(plant.machines[m][0])) for m in machines))
        return tuple(told)


def all_changes(plant, standing, row, many):
    """All rows of just so many changes, each possible in its turn, by trying all rows of names."""
    told = []
    for names in itertools.product(changes_of(plant), repeat=many):
        now = tuple(standing)
        for change in names:
            now = now if now is not None and change in possible(plant, now, row) else None
            now = None if now is None else led(plant, now, change)
        if now is not None:
            told.append(names)
    return told


class PlainArena:
    """The standings and moves of an arena, by the words of [112] to [114]."""

    def __init__(self, plant, least, most, waits=(), faults=(), many=0):
        self.plant, self.least, self.most = plant, least, most
        self.waits, self.faults, self.many = waits, faults, many
        self.late = any(kind == "late" for _, kind in faults)
        self.rows = rows(plant.outputs)
        self.first = reading_of(plant, plant.origin, ())
        counts = tuple(n if is_in(a, plant.origin) and not is_in(b, plant.origin) else 0 for a, b, n in waits)
        last = self.first if self.late else ()
        self.standings = [(plant.origin, counts, ("",) * len(plant.inputs), last)]
        self.table = []
        self.runs_out = []
        while len(self.table) < len(self.standings):
            told, out = [], []
            for row in self.rows:
                pairs, over = self.pairs(self.standings[len(self.table)], row)
                for _, behind in sorted(pairs):
                    if behind not in self.standings:
                        self.standings.append(behind)
                told.append(sorted({(reading, self.standings.index(behind)) for reading, behind in pairs}))
                out.append(over)
            self.table.append(told)
            self.runs_out.append(out)

    def pairs(self, standing, row):
        told, over = set(), False
        for true, q in moves(self.plant, standing[0], row, self.least, self.most):
            pairs, out = self.behind(standing, true, q)
            told |= pairs
            over = over or out
        return told, over

    def behind(self, standing, true, q):
        """The pairs of what is told and the arena standing behind, for a true reading at q; whether a wait runs out."""
        _, counts, states, last = standing
        told, over = set(), False
        left = []
        for count, (begin, end, n) in zip(counts, self.waits):
            if count == 0:
                left.append(n if is_in(begin, q) and not is_in(end, q) else 0)
            elif is_in(end, q):
                left.append(0)
            else:
                over = over or count == 1
                left.append(count - 1)
        for kinds in itertools.product(("", "stuck0", "stuck1", "late"), repeat=len(states)):
            if self.may(states, kinds, true, last):
                reading = tuple(self.bit(kind, bit, last, k) for k, (kind, bit) in enumerate(zip(kinds, true)))
                told.add((reading, (q, tuple(left), kinds, true if self.late else ())))
        return told, over

    def bit(self, kind, bit, last, place):
        if kind == "late":
            return last[place]
        return {"": bit, "stuck0": 0, "stuck1": 1}[kind]

    def may(self, states, kinds, true, last):
        if len([kind for kind in kinds if kind]) > max(self.many, len([kind for kind in states if kind])):
            return False
        for place, (state, kind) in enumerate(zip(states, kinds)):
            if state and kind != state:
                return False
            if kind and not state:
                if (place, kind) not in self.faults or self.bit(kind, true[place], last, place) == true[place]:
                    return False
        return True

    def calm(self, p, q):
        return all(a or not b for a, b in zip(self.standings[p][2], self.standings[q][2]))


class PlainGame:
    """Lots, tables, guards by the words of [115] and [121] to [132]. Lots are frozensets."""

    def __init__(self, arena, wish):
        self.arena, self.wish = arena, wish
        plant = arena.plant
        self.never = [is_in(wish.never, s[0]) for s in arena.standings]
        self.ends = [[is_in(end, s[0]) for s in arena.standings] for end in wish.ends]
        met = {(s[0], row): meets(plant, s[0], row, arena.least, arena.most, wish.never)
               for s in arena.standings for row in arena.rows}
        self.bad = [[met[s[0], row] or arena.runs_out[p][r] for r, row in enumerate(arena.rows)]
                    for p, s in enumerate(arena.standings)]

    def behind(self, lot, row):
        """From readings to lots; row is a number."""
        told = {}
        for p in lot:
            for reading, q in self.arena.table[p][row]:
                told.setdefault(reading, set()).add(q)
        return {reading: frozenset(told[reading]) for reading in sorted(told)}

    def reached(self):
        lots = [frozenset([0])]
        for lot in lots:
            for row in range(len(self.arena.rows)):
                for behind in self.behind(lot, row).values():
                    if behind not in lots:
                        lots.append(behind)
        return lots

    def holds(self, row, lot, lots):
        if any(self.bad[p][row] for p in lot):
            return False
        return all(behind in lots for behind in self.behind(lot, row).values())

    def no_path(self, lots, end):
        """The pairs (lot, p) from which no path leads to the end in this set of lots."""
        pairs = {(lot, p) for lot in lots for p in lot}
        good = {(lot, p) for lot, p in pairs if self.ends[end][p]}
        follow = {}
        for lot in lots:
            for row in range(len(self.arena.rows)):
                if self.holds(row, lot, lots):
                    behind = self.behind(lot, row)
                    for p in lot:
                        for reading, q in self.arena.table[p][row]:
                            if self.arena.calm(p, q):
                                follow.setdefault((lot, p), set()).add((behind[reading], q))
        while True:
            more = {pair for pair in pairs - good if follow.get(pair, set()) & good}
            if not more:
                return pairs - good
            good |= more

    def breaks(self, lots, by_ends=True):
        """From each lot of the set that breaks a condition to (word, data)."""
        told = {}
        lacking = [self.no_path(lots, end) for end in range(len(self.ends))] if by_ends else []
        for lot in lots:
            nevers = sorted(p for p in lot if self.never[p])
            shut = sorted((p, j) for j, pairs in enumerate(lacking) for other, p in pairs if other == lot)
            if nevers:
                told[lot] = ("never", nevers[0])
            elif not any(self.holds(row, lot, lots) for row in range(len(self.arena.rows))):
                told[lot] = ("rows", None)
            elif shut:
                told[lot] = ("end", shut[0])
        return told

    def rounds(self, by_ends=True):
        """The set of the greatest table, and the round of each other reached lot."""
        left = set(self.reached())
        told = {lot: 0 for lot in left if any(self.never[p] for p in lot)}
        left -= set(told)
        number = 0
        while True:
            number += 1
            gone = self.breaks(left, by_ends)
            if not gone:
                return left, told
            told.update({lot: number for lot in gone})
            left -= set(gone)

    def let(self, left, lot):
        return tuple(row for r, row in enumerate(self.arena.rows) if self.holds(r, lot, left))


def is_bad_run(game, run):
    """True if a plain run is one of the arena; game is a PlainGame, steps are (answer, reading, p)."""
    now = 0
    for answer, reading, p in run:
        if (reading, p) not in game.arena.table[now][game.arena.rows.index(answer)]:
            return False
        now = p
    return True


class ArenaChance(PlantChance):
    """Arenas and games by chance, each beside its plain reading."""

    def arena(self, most_standings=40, faults=True, waits=True, **more):
        from guardrungs.arenas import Arena
        from guardrungs.errors import TooMany
        while True:
            plant = self.plant(**more)
            least, most = self.falling(2)
            told_waits, told_faults, many = (), (), 0
            if waits and self.random.random() < 0.4:
                told_waits = tuple((self.lot(plant, 1), self.lot(plant, 0), self.random.randint(1, 3))
                                   for _ in range(self.random.randint(1, 2)))
            if faults and plant.inputs and self.random.random() < 0.4:
                every = [(k, kind) for k in range(len(plant.inputs)) for kind in ("stuck0", "stuck1", "late")]
                told_faults, many = self.some(every, 1, 2), self.random.randint(1, 2)
            try:
                arena = Arena(plant, least, most, waits=told_waits, faults=told_faults, many=many)
            except TooMany:
                continue
            if len(arena) <= most_standings:
                return arena, PlainArena(plant, least, most, told_waits, told_faults, many)

    def game(self, ends=2, **more):
        from guardrungs.arenas import Game
        from guardrungs.wishes import Wish
        arena, plain_arena = self.arena(**more)
        never = self.lot(arena.plant, 0, 1)
        wish = Wish(never, tuple(self.lot(arena.plant, 1) for _ in range(self.random.randint(0, ends))))
        return Game(arena, wish), PlainGame(plain_arena, wish)
