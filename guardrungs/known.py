"""Known lots: the standings that an arena may have, given all that was read and written."""

from guardrungs.bits import check_row, is_listed, is_whole, places_in
from guardrungs.errors import BadLot, BadNumber, BadRow, TooMany


def check_lot(arena, lot):
    """The lot as a tuple, if it is one of standings of the arena, ascending."""
    if not is_listed(lot) or len(lot) == 0:
        raise BadLot(-1)
    least = 0
    for place, p in enumerate(lot):
        if not is_whole(p, least, len(arena.standings) - 1):
            raise BadLot(place)
        least = p + 1
    return tuple(lot)


def check_rows(rows, many):
    """The rows as tuples, if each of them has so many bits."""
    if not is_listed(rows):
        raise BadRow(-1)
    return [check_row(row, many) for row in rows]


def steps_to(before, place):
    """The steps of a search to this place; before tells of each place the one ahead and the step, None at the start."""
    steps = []
    while before[place] is not None:
        place, step = before[place]
        steps.append(step)
    return tuple(reversed(list(steps)))


class Spread:
    """What is behind lots of an arena, by choices, that is, by lots of rows that let the same changes come.

    A lot is told here by its mask, the integer that has ones at the places of its standings.
    """

    def __init__(self, arena):
        self.moved = arena.made.moved
        self.lots = arena.made.lots
        self.parts = {}

    def part(self, place):
        """Pairs of reading and mask, from the moves that stand at this place of what was made."""
        if place not in self.parts:
            told = {}
            for reading, q in self.lots[place]:
                told[reading] = told.get(reading, 0) | (1 << q)
            self.parts[place] = list(told.items())
        return self.parts[place]

    def behind(self, lot, choice):
        """Pairs of reading and mask, ascending, for what is behind the lot, a row of the choice and the reading."""
        places = {self.moved[p][choice]: True for p in lot}
        told = {}
        for place in places:
            for reading, mask in self.part(place):
                told[reading] = told.get(reading, 0) | mask
        return sorted(list(told.items()))


class Reached:
    """The lots reached, numbered as met.

    steps[k][choice] has the pairs of reading and number of the lot behind, ascending by reading.
    """

    def __init__(self, arena):
        spread = Spread(arena)
        choices = max(arena.made.choices) + 1
        self.numbers = {1: 0}
        self.lots = [(0,)]
        self.steps = []
        while len(self.steps) < len(self.lots):
            lot = self.lots[len(self.steps)]
            self.steps.append([self.numbered(spread.behind(lot, choice)) for choice in range(choices)])

    def numbered(self, pairs):
        """The pairs with the numbers of lots in place of masks; new lots are added."""
        for _, mask in list(pairs):
            if mask not in self.numbers:
                self.numbers[mask] = len(self.lots)
                self.lots.append(tuple(places_in(mask)))
                if len(self.lots) > 600:
                    raise TooMany(600)
        return [(reading, self.numbers[mask]) for reading, mask in pairs]


def lot_behind(arena, lot, row, reading):
    """The lot behind; all arguments are right."""
    return tuple(sorted({q for p in lot for told, q in arena.moves(p, row) if told == reading}))


def after(arena, lot, row, reading):
    """The lot behind lot, row and reading; () if nothing can come."""
    told = check_lot(arena, lot)
    outputs = check_row(row, arena.plant.outputs)
    return lot_behind(arena, told, outputs, check_row(reading, len(arena.plant.inputs)))


def readings_after(arena, lot, row):
    """The readings that can come behind lot and row."""
    told = check_lot(arena, lot)
    outputs = check_row(row, arena.plant.outputs)
    return tuple(sorted({reading for p in told for reading, _ in arena.moves(p, outputs)}))


def known_lot(arena, readings, rows):
    """The known lot behind readings and rows, () if they cannot come; the lengths of all rows are right."""
    if readings[0] != arena.first:
        return ()
    lot = (0,)
    for row, reading in zip(rows, readings[1:]):
        lot = lot_behind(arena, lot, row, reading)
    return lot


def known(arena, readings, rows):
    """The known lot behind readings and rows; () if they cannot come."""
    told = check_rows(readings, len(arena.plant.inputs))
    written = check_rows(rows, arena.plant.outputs)
    if len(told) != len(written) + 1:
        raise BadNumber("rows")
    return known_lot(arena, told, written)


def lots_reached(arena):
    """All lots reached, as met."""
    return tuple(Reached(arena).lots)


def single(arena):
    """True if all lots reached have one standing."""
    return all([len({reading: True for reading, _ in lot}) == len(lot) for lot in arena.made.lots])
