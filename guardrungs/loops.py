"""Books around arenas: runs, and whether a book is a good guard."""

from guardrungs.bits import columns_of, is_listed, is_whole
from guardrungs.errors import BadNumber, OtherShape, TooMany
from guardrungs.known import check_rows, steps_to


def fits_plain(arena, book):
    """True if the book reads the readings alone and writes the outputs."""
    plant = arena.plant
    return len(book.inputs) == len(plant.inputs) and len(book.outputs) == plant.outputs


def fits_asked(arena, book):
    """True if the book reads a reading and an ask and writes the outputs."""
    plant = arena.plant
    return len(book.inputs) == len(plant.inputs) + plant.outputs and len(book.outputs) == plant.outputs


class Around:
    """A book around an arena, asked nothing or whatever can be asked.

    A place is (reading, p, standing). What is behind it is told by nodes (moves, standing), the place of the moves in
    what the arena made, and the book's next standing; many places share one.
    """

    def __init__(self, arena, book, is_asked):
        self.arena = arena
        self.book = book
        self.is_asked = is_asked
        self.asks = arena.rows if is_asked else ((),)
        self.columns = columns_of(arena.plant.outputs) if is_asked else []
        self.full = (1 << len(self.asks)) - 1
        self.worked = {}
        start = (arena.first, 0, book.start())
        self.places = [start]
        self.numbers = {start: 0}
        self.before = [None]
        self.level = [0]
        self.behinds = []

    def worked_steps(self, reading, standing):
        """For each ask the answer to the reading, and the next standing."""
        if (reading, standing) not in self.worked:
            columns = [self.full * bit for bit in reading] + self.columns
            self.worked[(reading, standing)] = self.book.step_cases(standing, columns, self.full)
        return self.worked[(reading, standing)]

    def told_steps(self, reading, standing):
        """For each ask what runs tell of it, the answer alone or the ask and the answer, and the next standing."""
        told = []
        for ask, (answer, behind) in zip(self.asks, self.worked_steps(reading, standing)):
            told.append(((ask, answer) if self.is_asked else (answer,), behind))
        return told

    def answers(self, number):
        """What is told at this place."""
        reading, _, standing = self.places[number]
        return self.told_steps(reading, standing)

    def go_on(self, most):
        """Meet the places behind those of the level, which are the next one; it may end once there are more than most.

        behinds gets for each place of the level its nodes.
        """
        following = []
        for number in list(self.level):
            nodes = {}
            _, p, _ = self.places[number]
            for told, behind in list(self.answers(number)):
                node = (self.arena.place_at(p, self.arena.checked_row(told[-1])), behind)
                if node in nodes:
                    continue
                nodes[node] = True
                for reading, q in list(self.arena.made.lots[node[0]]):
                    place = (reading, q, behind)
                    if place not in self.numbers and (most is None or len(self.places) <= most):
                        self.numbers[place] = len(self.places)
                        following.append(len(self.places))
                        self.places.append(place)
                        self.before.append((number, told + (reading, q)))
            self.behinds.append(list(nodes))
        self.level = following

    def run_to(self, number):
        """The run to this place."""
        return steps_to(self.before, number)

    def leading_to(self, ends):
        """The numbers of the places, as keys, from which calm moves lead to a standing of this lot of places."""
        nodes_before = {}
        for number, nodes in list(enumerate(self.behinds)):
            for node in list(nodes):
                nodes_before.setdefault(node, []).append(number)
        moves_before = {}
        for node in list(nodes_before):
            for reading, q in list(self.arena.made.calm_lots[node[0]]):
                moves_before.setdefault((reading, q, node[1]), []).append(node)
        left = [number for number, place in enumerate(self.places) if ends[place[1]]]
        told = {number: True for number in left}
        met = {}
        while left:
            place = self.places[left.pop()]
            for node in moves_before.get(place, []):
                if node not in met:
                    met[node] = True
                    new = [number for number in nodes_before[node] if number not in told]
                    told.update({number: True for number in new})
                    left.extend(new)
        return told


def _judged(game, around):
    """The word, a run and what is told behind it."""
    if game.nevers[0]:
        return ("never", (), None)
    while around.level:
        if len(around.places) > 20000:
            raise TooMany(20000)
        for number in around.level:
            for told, _ in around.answers(number):
                if game.bad_at(around.places[number][1], game.arena.checked_row(told[-1])):
                    return ("bad", around.run_to(number), told if around.is_asked else told[0])
        around.go_on(20000)
    return _shut(game, around)


def _shut(game, around):
    """What is told if no run is bad."""
    firsts = []
    for end, ends in enumerate(game.end_places):
        told = around.leading_to(ends)
        for number in range(len(around.places)):
            if number not in told:
                firsts.append((len(around.run_to(number)), end, number))
                break
    if not firsts:
        return ("good", (), None)
    _, end, number = min(firsts)
    return ("shut", around.run_to(number), end)


def judge(game, book):
    """Whether the book is a good plain guard, and if not, a run that shows it."""
    if not fits_plain(game.arena, book):
        raise OtherShape()
    return _judged(game, Around(game.arena, book, False))


def judge_asked(game, book):
    """Whether the book is a good asked guard, and if not, a run that shows it."""
    if not fits_asked(game.arena, book):
        raise OtherShape()
    return _judged(game, Around(game.arena, book, True))


def is_guard(game, book):
    """True if the book is a good plain guard."""
    return judge(game, book)[0] == "good"


def is_asked_guard(game, book):
    """True if the book is a good asked guard."""
    return judge_asked(game, book)[0] == "good"


def walk(arena, book, picks, *, asks=()):
    """A run around the book, the moves picked by their places."""
    is_plain = fits_plain(arena, book)
    if not is_plain and not fits_asked(arena, book):
        raise OtherShape()
    if not is_listed(picks) or not all([is_whole(pick, 0, None) for pick in picks]):
        raise BadNumber("picks")
    rows = check_rows(asks, arena.plant.outputs)
    rows.extend([(0,) * arena.plant.outputs] * max(0, len(picks) - len(rows)))
    reading = arena.first
    p = 0
    standing = book.start()
    run = []
    for pick, ask in zip(picks, rows):
        answer, standing = book.step(standing, reading if is_plain else reading + ask)
        moves = arena.moves(p, answer)
        reading, p = moves[pick % len(moves)]
        run.append((answer, reading, p) if is_plain else (ask, answer, reading, p))
    return tuple(run)
