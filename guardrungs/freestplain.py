"""The widest guard: a plain one that has each run of each good guard, where there is one."""

from guardrungs.bits import number_of
from guardrungs.books import Book, numbered_names
from guardrungs.errors import OtherShape
from guardrungs.freest import check_guards
from guardrungs.known import check_lot


class Widths:
    """Which moves hold which others, and the widest rows of lots."""

    def __init__(self, table):
        self.table = table
        self.arena = table.game.arena
        self.known_holds = {}
        self.widest = {}

    def holds(self, place, other):
        """True if the moves at the one place of what the arena made hold those at the other."""
        lots = self.arena.made.lots
        if place != other and (place, other) not in self.known_holds:
            moves = {move: True for move in lots[place]}
            self.known_holds[(place, other)] = all([move in moves for move in lots[other]])
        return place == other or self.known_holds[(place, other)]

    def has_moves(self, row, lot, other):
        """True if the row has the moves of the other one at each standing of the lot; rows are numbers."""
        arena = self.arena
        return all([self.holds(arena.place_at(p, row), arena.place_at(p, other)) for p in lot])

    def rows_at(self, lot):
        """The numbers of the rows that the lot lets."""
        return [number_of(row) for row in self.table.told_rows[lot]]

    def widest_at(self, lot):
        """The number of the widest row of a lot of the table; None if there is none."""
        if lot not in self.widest:
            rows = self.rows_at(lot)
            wide = [row for row in rows if all([self.has_moves(row, lot, other) for other in rows])]
            self.widest[lot] = wide[0] if wide else None
        return self.widest[lot]

    def behind(self, lot, row):
        """Pairs of reading and lot behind, ascending; the row is a number."""
        table = self.table
        steps = table.steps[table.reached_numbers[lot]][self.arena.made.choices[row]]
        return [(reading, table.reached_lots[number]) for reading, number in steps]


def widest_row(table, lot):
    """The widest row of the lot; None if there is none, or the lot is not in the table."""
    told = check_lot(table.game.arena, lot)
    if told not in table.told_rows:
        return None
    row = Widths(table).widest_at(told)
    return None if row is None else table.game.arena.rows[row]


def pair_open(table):
    """The first pair of lots that fails; None if none does."""
    check_guards(table)
    widths = Widths(table)
    pairs = [((0,), (0,))]
    met = {pairs[0]: True}
    at = 0
    while at < len(pairs):
        lot, other = pairs[at]
        row = widths.widest_at(lot)
        rows = widths.rows_at(other)
        if row is None or not all([widths.has_moves(row, other, told) for told in rows]):
            return pairs[at]
        wide = {reading: behind for reading, behind in widths.behind(lot, row)}
        for told in rows:
            for reading, behind in widths.behind(other, told):
                pair = (wide[reading], behind)
                if pair not in met:
                    met[pair] = True
                    pairs.append(pair)
        at += 1
    return None


class Widest(Book):
    """The widest guard. It keeps the known lot and the row written last."""

    def __init__(self, table):
        if pair_open(table) is not None:
            raise OtherShape()
        plant = table.game.arena.plant
        self.table = table
        self.widths = Widths(table)
        self.inputs = numbered_names("x", len(plant.inputs))
        self.outputs = numbered_names("y", plant.outputs)

    def start(self):
        """No lot is known."""
        return (-1, -1)

    def step(self, standing, reading):
        """The answer and the next standing."""
        row = self.checked(reading)
        arena = self.table.game.arena
        if standing[0] < 0:
            number = self.widths.widest_at((0,))
            behind = (self.table.places[(0,)], number) if row == arena.first else (-1, -1)
            return arena.rows[number], behind
        lot = self.table.lot_after(self.table.lots[standing[0]], standing[1], row)
        if lot is None:
            return arena.rows[standing[1]], tuple(standing)
        number = self.widths.widest_at(lot)
        return arena.rows[number], (self.table.places[lot], number)
