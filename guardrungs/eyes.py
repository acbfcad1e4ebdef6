"""Inputs that are needed: games seen by some inputs alone, and games with other faults."""

from guardrungs.arenas import Arena, Game
from guardrungs.bits import is_listed, is_whole
from guardrungs.errors import BadNumber, OtherShape
from guardrungs.joining import Wired
from guardrungs.plants import Plant, is_rising
from guardrungs.tables import Table


def _check_places(places, many):
    """Raise BadNumber unless these are places below many, ascending, each once."""
    if not is_listed(places) or not is_rising(places, 0, many - 1):
        raise BadNumber("places")


def blind_to(plant, places):
    """The plant with the inputs of these places alone."""
    _check_places(places, len(plant.inputs))
    inputs = [plant.inputs[place] for place in places]
    return Plant(plant.machines, plant.outputs, inputs, drivers=plant.drivers)


def _check_faultless(game):
    if game.arena.faults:
        raise OtherShape()


def with_eyes(game, places):
    """The game seen by the inputs of these places alone."""
    _check_faultless(game)
    arena = game.arena
    plant = blind_to(arena.plant, places)
    return Game(Arena(plant, arena.fewest, arena.most, waits=arena.waits), game.wish)


def enough(game, places):
    """True exactly if the places are enough."""
    return Table(with_eyes(game, places)).guards


def _lots_of(many, size):
    """All lots of so many of the places below many, ascending."""
    lots = [()]
    for _ in range(size):
        lots = [lot + (place,) for lot in lots for place in range(lot[-1] + 1 if lot else 0, many)]
    return lots


def least_eyes(game):
    """The least eyes of the game, ascending."""
    _check_faultless(game)
    many = len(game.arena.plant.inputs)
    found = []
    for size in range(many + 1):
        fresh = []
        for lot in _lots_of(many, size):
            holds = any([all([place in lot for place in other]) for other in found])
            if not holds and enough(game, lot):
                fresh.append(lot)
        found = found + fresh
    return tuple(sorted(found))


def with_faults(game, faults, many):
    """The game with these faults, at most many of them."""
    arena = game.arena
    return Game(Arena(arena.plant, arena.fewest, arena.most, waits=arena.waits, faults=faults, many=many), game.wish)


def deaf(book, many, places):
    """A book that reads many inputs and hands those of the places to the book."""
    if not is_whole(many, 0, None):
        raise BadNumber("many")
    _check_places(places, many)
    if len(places) != len(book.inputs):
        raise BadNumber("places")
    return Wired(book, many, places)
