"""Why a row does not hold, and plays to lots that are not in the table."""

from guardrungs.bits import check_row, number_of
from guardrungs.errors import BadLot, HasGuard
from guardrungs.known import check_lot
from guardrungs.plays import Checking, play_up_to
from guardrungs.tables import Table


def why_not(table, lot, row):
    """Why the row does not hold at this lot of the table; None if it does."""
    game = table.game
    told = check_lot(game.arena, lot)
    if told not in table.told_rows:
        raise BadLot(-1)
    number = number_of(check_row(row, game.arena.plant.outputs))
    bad = [p for p in told if game.bad_at(p, number)]
    if bad:
        return ("bad", bad[0])
    choice = game.arena.made.choices[number]
    for reading, behind in table.steps[table.reached_numbers[told]][choice]:
        if table.reached_lots[behind] not in table.told_rows:
            return ("reading", reading, play_up_to(table, behind))
    return None


def play_to(game, lot):
    """A play to this lot."""
    told = check_lot(game.arena, lot)
    table = Table(game)
    if told not in table.reached_numbers:
        raise BadLot(-1)
    if told in table.told_rows:
        raise HasGuard()
    return play_up_to(table, table.reached_numbers[told])


def is_play_to(game, play, lot):
    """True exactly if this is a play to this lot."""
    told = check_lot(game.arena, lot)
    checking = Checking(game)
    if told not in checking.numbers:
        raise BadLot(-1)
    return isinstance(play, tuple) and checking.wrong(play, told) is None
