"""Free plants: games in which a lot is as good as its worst standing; and guards joined by "and"."""

from guardrungs.bits import mask_of
from guardrungs.books import Book
from guardrungs.errors import OtherShape
from guardrungs.joining import both_standings, crossed, parts_of
from guardrungs.known import check_lot
from guardrungs.wishes import fits


class Both(Book):
    """Two books that read the same; an output is 1 exactly if both write 1."""

    def __init__(self, first, second):
        if len(first.inputs) != len(second.inputs) or len(first.outputs) != len(second.outputs):
            raise OtherShape()
        self.first = first
        self.second = second
        self.inputs = tuple(first.inputs)
        self.outputs = tuple(first.outputs)

    def start(self):
        """Both stand at their starts."""
        return both_standings(self.first.start(), self.second.start())

    def step(self, standing, reading):
        """The answer and the next standing."""
        return self.groups(standing, self.checked(reading), 1)[0][:2]

    def groups(self, standing, columns, full):
        """For groups of cases answer, next standing and column."""
        first, second = parts_of(standing)
        many = len(self.outputs)
        pairs = crossed(self.first.groups(first, columns, full), self.second.groups(second, columns, full), True)
        return [(anded(answer[:many], answer[many:]), behind, column) for answer, behind, column in pairs]


def anded(row, other):
    """The row with a 1 where both rows have one."""
    return tuple([bit & told for bit, told in zip(row, other)])


def driven_by_ones(plant):
    """True if each driver's bit is 1."""
    return all([bit == 1 for _, _, bit in plant.drivers])


def is_free(game):
    """True if the game is of a free plant."""
    arena = game.arena
    if not driven_by_ones(arena.plant) or game.wish.ends or arena.waits:
        return False
    return arena.most is None or arena.most >= 1


def doomed(ground, never):
    """The numbers, as keys, of the standings from which free changes lead to never; all standings are met.

    Each driver's bit is 1, so that the row of zeros lets just the free changes come.
    """
    zeros = (0,) * ground.plant.outputs
    ahead = [[] for _ in ground.standings]
    for number in range(len(ground.standings)):
        for _, behind in list(ground.ways_from(number, zeros)):
            ahead[behind].append(number)
    told = {number: True for number, standing in enumerate(ground.standings) if fits(never, standing)}
    left = list(told)
    while left:
        new = [number for number in ahead[left.pop()] if number not in told]
        told.update({number: True for number in new})
        left.extend(list({number: True for number in new}))
    return told


def _check_free(game):
    if not is_free(game):
        raise OtherShape()


def _safe_mask(game):
    """The integer that has ones at the places of the safe standings."""
    ground = game.arena.made.ground
    lost = doomed(ground, game.wish.never)
    standings = game.arena.standings
    return mask_of([p for p, standing in enumerate(standings) if ground.numbers[standing[0]] not in lost])


def safe(game):
    """The safe standings of the arena, ascending."""
    _check_free(game)
    mask = _safe_mask(game)
    return tuple([p for p in range(len(game.arena.standings)) if (mask >> p) & 1 == 1])


def top_row(game, lot):
    """The row that has a 1 wherever a row has that holds at this lot; None if a standing of it is not safe."""
    if game.arena.most != 1:
        raise OtherShape()
    _check_free(game)
    told = check_lot(game.arena, lot)
    mask = _safe_mask(game)
    if not all([(mask >> p) & 1 == 1 for p in told]):
        return None
    outputs = game.arena.plant.outputs
    top = []
    for output in range(outputs):
        # One change comes at most, so each output is judged alone.
        row = tuple([1 if place == output else 0 for place in range(outputs)])
        moves = [move for p in told for move in game.arena.moves(p, row)]
        is_bad = any([game.bad(p, row) for p in told])
        top.append(0 if is_bad or any([(mask >> q) & 1 == 0 for _, q in moves]) else 1)
    return tuple(top)
