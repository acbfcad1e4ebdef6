"""Games side by side: their plants are joined, and so are their guards."""

from guardrungs.arenas import Arena, Game
from guardrungs.errors import OtherShape
from guardrungs.joining import Beside, Wired
from guardrungs.known import check_lot
from guardrungs.loops import fits_asked, fits_plain
from guardrungs.wishes import joined_wish, moved


def _is_plain(arena):
    """True for falling (0, None) without waits and faults."""
    return arena.fewest == 0 and arena.most is None and not arena.waits and not arena.faults


def joined_game(game, other):
    """The two games side by side."""
    if not _is_plain(game.arena) or not _is_plain(other.arena):
        raise OtherShape()
    plant = game.arena.plant.joined(other.arena.plant)
    return Game(Arena(plant, 0, None), joined_wish(game.wish, moved(other.wish, len(game.arena.plant.machines))))


def _numbers(arena):
    """The numbers of the arena's standings by their plant standings; there are no waits and no faults."""
    return {standing[0]: p for p, standing in enumerate(arena.standings)}


def split_lot(game, other, joined, lot):
    """The lots of the two games whose product is this lot of the joined one; None if it is no product."""
    told = check_lot(joined.arena, lot)
    many = len(game.arena.plant.machines)
    standings = [joined.arena.plant_standing(p) for p in told]
    firsts, seconds = _numbers(game.arena), _numbers(other.arena)
    first = sorted({firsts[standing[:many]] for standing in standings})
    second = sorted({seconds[standing[many:]] for standing in standings})
    if len(first) * len(second) != len(told):
        return None
    return tuple(first), tuple(second)


def joined_books(first, second, game, other):
    """The two guards side by side, both plain or both asked."""
    beside = Beside(first, second)
    inputs = len(beside.inputs)
    if fits_plain(game.arena, first) and fits_plain(other.arena, second):
        return Wired(beside, inputs, list(range(inputs)))
    if not fits_asked(game.arena, first) or not fits_asked(other.arena, second):
        raise OtherShape()
    # The whole reads both readings ahead of both asks; each part reads its ask behind its reading.
    one, two = len(game.arena.plant.inputs), len(other.arena.plant.inputs)
    asks = game.arena.plant.outputs
    wires = list(range(one)) + list(range(one + two, one + two + asks))
    wires.extend(list(range(one, one + two)) + list(range(one + two + asks, inputs)))
    return Wired(beside, inputs, wires)
