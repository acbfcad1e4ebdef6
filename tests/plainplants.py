"""A second reading of the rules of plants, word by word, and plants made by chance."""

import itertools

from guardrungs.plants import Plant
from tests.plain import Chance, rows


def having(plant, change):
    return [m for m, (_, arrows) in enumerate(plant.machines) if any(arrow[1] == change for arrow in arrows)]


def changes_of(plant):
    told = []
    for _, arrows in plant.machines:
        for _, change, _ in arrows:
            if change not in told:
                told.append(change)
    return told


def led(plant, standing, change):
    """The standing behind the change, None if a machine lacks an arrow."""
    told = list(standing)
    for m in having(plant, change):
        ends = [b for a, c, b in plant.machines[m][1] if a == standing[m] and c == change]
        if not ends:
            return None
        told[m] = ends[0]
    return tuple(told)


def possible(plant, standing, row):
    told = []
    for change in changes_of(plant):
        shut = [1 for c, output, bit in plant.drivers if c == change and row[output] != bit]
        if not shut and led(plant, standing, change) is not None:
            told.append(change)
    return told


def reading_of(plant, standing, come):
    told = []
    for one in plant.inputs:
        if one[0] == "level":
            told.append(1 if standing[one[1]] in one[2] else 0)
        else:
            told.append(1 if set(one[1]) & set(come) else 0)
    return tuple(told)


def marks_of(plant, come):
    return tuple(1 if one[0] == "mark" and set(one[1]) & set(come) else 0 for one in plant.inputs)


def layer(plant, standing, row, many):
    """The pairs (come, standing) that rows of just so many changes lead to, come being the set of changes."""
    now = {(frozenset(), tuple(standing))}
    for _ in range(many):
        now = {(come | {change}, led(plant, p, change)) for come, p in now for change in possible(plant, p, row)}
    return now


def falling_pairs(plant, standing, row, least, most, bound=40):
    """The pairs (come, standing) of falling rows, with rows of at most bound changes where there is no bound."""
    told = set()
    top = bound if most is None else most
    now = {(frozenset(), tuple(standing))}
    for j in range(top + 1):
        told |= {(come, p) for come, p in now if j >= least or not possible(plant, p, row)}
        now = {(come | {change}, led(plant, p, change)) for come, p in now for change in possible(plant, p, row)}
    return told


def moves(plant, standing, row, least, most):
    pairs = falling_pairs(plant, standing, row, least, most)
    return tuple(sorted({(reading_of(plant, p, come), p) for come, p in pairs}))


def meets(plant, standing, row, least, most, never, bound=40):
    """By going through the standings that changes lead to, one layer behind the other."""
    now = {tuple(standing)}
    for _ in range(bound if most is None else most):
        now = {led(plant, p, change) for p in now for change in possible(plant, p, row)}
        if any(is_in(never, p) for p in now):
            return True
    return False


def is_in(lot, standing):
    return any(all(m < len(standing) and standing[m] == s for m, s in pattern) for pattern in lot)


def reached(plant):
    """All plant standings that changes lead to, whatever is written."""
    met, left = {plant.origin}, [plant.origin]
    while left:
        p = left.pop()
        for row in rows(plant.outputs):
            for change in possible(plant, p, row):
                q = led(plant, p, change)
                if q not in met:
                    met.add(q)
                    left.append(q)
    return met


class PlantChance(Chance):
    def plant(self, machines=2, size=3, changes=3, outputs=1, inputs=2, arrows=4, drivers=None):
        names = [f"c{k}" for k in range(changes)]
        told = []
        for _ in range(machines):
            most = self.random.randint(1, size)
            ways = {}
            for _ in range(self.random.randint(0, arrows)):
                ways.setdefault((self.random.randrange(most), self.pick(names)), self.random.randrange(most))
            told.append((most, tuple((a, c, b) for (a, c), b in ways.items())))
        have = []
        for _, row in told:
            for _, change, _ in row:
                if change not in have:
                    have.append(change)
        shown = []
        for _ in range(inputs):
            if self.random.random() < 0.6:
                m = self.random.randrange(machines)
                shown.append(("level", m, tuple(sorted(self.some(range(told[m][0]), 0, told[m][0])))))
            else:
                shown.append(("mark", self.some(have, 0, 2)))
        driven = []
        if outputs:
            for change in have:
                if self.random.random() < 0.6:
                    driven.append((change, self.random.randrange(outputs), self.random.randint(0, 1)))
        if drivers is not None:
            driven = [driver[:2] + (drivers,) for driver in driven]
        return Plant(told, outputs, shown, drivers=driven)

    def falling(self, most=3):
        least = self.random.randint(0, most)
        if self.random.random() < 0.6:
            least = 0
        return least, self.pick([None] + list(range(least, most + 1)))

    def lot(self, plant, least=0, most=2):
        told = []
        for _ in range(self.random.randint(least, most)):
            machines = sorted(self.some(range(len(plant.machines)), 1, 2))
            told.append(tuple((m, self.random.randrange(plant.machines[m][0])) for m in machines))
        return tuple(told)


def all_changes(plant, standing, row, many):
    """All rows of just so many changes, each possible in its turn, by trying all rows of names."""
    told = []
    for names in itertools.product(changes_of(plant), repeat=many):
        now = tuple(standing)
        for change in names:
            now = now if now is not None and change in possible(plant, now, row) else None
            now = None if now is None else led(plant, now, change)
        if now is not None:
            told.append(names)
    return told
