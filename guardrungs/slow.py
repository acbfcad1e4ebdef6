"""Guards that run once in so many readings."""

from guardrungs.arenas import Arena, Game
from guardrungs.bits import check_row, is_whole
from guardrungs.errors import BadFalling, BadNumber, BadWish, OtherShape
from guardrungs.moves import check_falling, moves_from
from guardrungs.tables import Table


def _check_alone(arena):
    if arena.waits or arena.faults:
        raise OtherShape()


def _check_times(times):
    if not is_whole(times, 1, 24):
        raise BadNumber("times")


def _slowed(arena, times):
    most = None if arena.most is None else times * arena.most
    return Arena(arena.plant, times * arena.fewest, most)


def slowed(arena, times):
    """The arena in which so many fallings come ahead of each reading."""
    _check_alone(arena)
    _check_times(times)
    return _slowed(arena, times)


def moves_in_turn(plant, standing, row, least, most, times):
    """The moves of so many fallings, one behind the other."""
    told = check_row(row, plant.outputs)
    check_falling(least, most)
    _check_times(times)
    return moves_from(plant, standing, told, times * least, None if most is None else times * most)


def slowest(game, limit):
    """The greatest number of times up to the limit with a good guard of the slowed arena; 0 if there is none."""
    arena = game.arena
    _check_alone(arena)
    if game.wish.ends:
        raise BadWish("end", 0)
    if not is_whole(limit, 1, 24):
        raise BadNumber("limit")
    if limit * (arena.fewest if arena.most is None else arena.most) > 24:
        raise BadFalling()
    for times in range(limit, 0, -1):
        if Table(Game(_slowed(arena, times), game.wish)).guards:
            return times
    return 0
