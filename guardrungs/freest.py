"""The freest guard: asked whatever, it writes just what good guards may write."""

from guardrungs.bits import number_of
from guardrungs.books import Book, numbered_names
from guardrungs.errors import BadNumber, NoGuard
from guardrungs.known import check_rows, lot_behind


def check_guards(table):
    """Raise NoGuard if there is no good guard."""
    if not table.guards:
        raise NoGuard()


class Freest(Book):
    """The freest guard. It keeps the known lot and the row written last."""

    def __init__(self, table):
        check_guards(table)
        plant = table.game.arena.plant
        self.table = table
        self.many = len(plant.inputs)
        self.inputs = numbered_names("x", self.many) + numbered_names("a", plant.outputs)
        self.outputs = numbered_names("y", plant.outputs)

    def start(self):
        """No lot is known."""
        return (-1, -1)

    def step(self, standing, reading):
        """The answer and the next standing."""
        row = self.checked(reading)
        told = row[:self.many]
        arena = self.table.game.arena
        if standing[0] < 0:
            if told != arena.first:
                return self.table.told_rows[(0,)][0], (-1, -1)
            lot = (0,)
        else:
            lot = self.table.lot_after(self.table.lots[standing[0]], standing[1], told)
            if lot is None:
                return arena.rows[standing[1]], tuple(standing)
        rows = self.table.told_rows[lot]
        answer = row[self.many:] if row[self.many:] in rows else rows[0]
        return answer, (self.table.places[lot], number_of(answer))

    def lot_in(self, standing):
        """The known lot; () at the start."""
        return () if standing[0] < 0 else self.table.lots[standing[0]]

    def row_in(self, standing):
        """The row written last; () at the start."""
        return () if standing[0] < 0 else self.table.game.arena.rows[standing[1]]


def lets(table, readings, rows):
    """True if the readings and rows are let."""
    return refused_at(table, readings, rows) is None


def refused_at(table, readings, rows):
    """The first place at which the readings and rows are not let; None if they are let."""
    arena = table.game.arena
    told = check_rows(readings, len(arena.plant.inputs))
    written = check_rows(rows, arena.plant.outputs)
    if len(told) != len(written) or not written:
        raise BadNumber("rows")
    lot = (0,) if told[0] == arena.first else ()
    for at, row in enumerate(written):
        if at > 0:
            lot = lot_behind(arena, lot, written[at - 1], told[at])
        if not lot or row not in table.told_rows.get(lot, ()):
            return at
    return None
