"""From one freest guard to another: which moments are right, and a guard that is handed over."""

from guardrungs.arenas import Game
from guardrungs.bits import is_whole, number_of
from guardrungs.books import Book
from guardrungs.errors import BadNumber, OtherShape
from guardrungs.freest import Freest, check_guards
from guardrungs.tables import Table
from guardrungs.wishes import joined_wish


def arena_told(arena):
    """All that tells the arena, as a tuple."""
    plant = arena.plant
    told = (plant.machines, plant.outputs, plant.inputs, plant.drivers)
    return told + (arena.fewest, arena.most, arena.waits, arena.faults, arena.many)


def _check_arenas(game, other):
    if arena_told(game.arena) != arena_told(other.arena):
        raise OtherShape()


def _is_keeping(table, other, lot, row):
    """True if each lot behind the lot and the row with this number is in the other table."""
    choice = table.game.arena.made.choices[row]
    steps = table.steps[table.reached_numbers[lot]][choice]
    return all([table.reached_lots[behind] in other.told_rows for _, behind in steps])


def keeping_pairs(table, other):
    """For each lot of the table and row that it lets whether they are a keeping pair."""
    _check_arenas(table.game, other.game)
    told = []
    for lot in table.lots:
        for row in table.told_rows[lot]:
            told.append(((lot, row), _is_keeping(table, other, lot, number_of(row))))
    return tuple(told)


def always_safe(table, other):
    """True if all lots that the freest guard comes to behind the first reading are in the other table."""
    check_guards(table)
    _check_arenas(table.game, other.game)
    choices = table.game.arena.made.choices
    met = {(0,): True}
    left = [(0,)]
    while left:
        lot = left.pop()
        steps = table.steps[table.reached_numbers[lot]]
        for choice in list({choices[number_of(row)]: True for row in table.told_rows[lot]}):
            for _, number in list(steps[choice]):
                behind = table.reached_lots[number]
                if behind not in other.told_rows:
                    return False
                if behind not in met:
                    met[behind] = True
                    left.append(behind)
    return True


def both_always(game, other):
    """The table of the joined wish."""
    _check_arenas(game, other)
    return Table(Game(game.arena, joined_wish(game.wish, other.wish)))


def sets_meet(table, other):
    """The lots that are in both tables, ascending."""
    _check_arenas(table.game, other.game)
    return tuple([lot for lot in table.lots if lot in other.told_rows])


class Handed(Book):
    """The first freest guard, and from the first keeping pair behind an answer on the second one.

    Its standing: whether it is handed over; the number of the known lot among the lots reached, -1 at the start; the
    number of the row written last, -1 at the start; how many answers are still to come ahead of number since.
    """

    def __init__(self, table, other, *, since):
        check_guards(table)
        check_guards(other)
        _check_arenas(table.game, other.game)
        if not is_whole(since, 1, 60):
            raise BadNumber("since")
        self.table = table
        self.other = other
        self.since = since
        freest = Freest(table)
        self.many = freest.many
        self.inputs = freest.inputs
        self.outputs = freest.outputs

    def start(self):
        """No lot is known."""
        return (0, -1, -1, self.since)

    def step(self, standing, reading):
        """The answer and the next standing."""
        row = self.checked(reading)
        over, number, last, left = standing
        table = self.other if over == 1 else self.table
        lot = self.lot_behind(table, number, last, row[:self.many])
        answer = self.answer_at(table, lot, number, last, row[self.many:])
        if lot is not None:
            number, last = self.table.reached_numbers[lot], number_of(answer)
        left = max(left - 1, 0)
        if over == 0 and left == 0 and number >= 0:
            over = 1 if _is_keeping(self.table, self.other, self.table.reached_lots[number], last) else 0
        return answer, (over, number, last, left)

    def lot_behind(self, table, number, last, reading):
        """The lot behind a reading; None if it cannot be."""
        if number < 0:
            return (0,) if reading == self.table.game.arena.first else None
        return table.lot_after(table.reached_lots[number], last, reading)

    def answer_at(self, table, lot, number, last, ask):
        """The row that is written."""
        if lot is None:
            return table.told_rows[(0,)][0] if number < 0 else table.game.arena.rows[last]
        rows = table.told_rows[lot]
        return ask if ask in rows else rows[0]

    def changed(self, standing):
        """True if the guard has been handed over."""
        return standing[0] == 1

    def lot_in(self, standing):
        """The known lot; () at the start."""
        return () if standing[1] < 0 else self.table.reached_lots[standing[1]]
