"""Standings at which a running machine may be changed into another one."""

from guardrungs.bits import check_row, is_whole, mask_of, number_of, places_in
from guardrungs.errors import BadNumber, OtherShape, TooMany
from guardrungs.least import splits
from guardrungs.loops import fits_plain


def check_shapes(old, new):
    """Raise OtherShape if the machines differ in their numbers of inputs or of outputs."""
    if len(old.inputs) != len(new.inputs) or len(old.outputs) != len(new.outputs):
        raise OtherShape()


def check_plain(arena, machine):
    """Raise OtherShape if the machine does not fit the arena plain."""
    if not fits_plain(arena, machine):
        raise OtherShape()


def reached_from(machine):
    """The standings that are reached from the machine's start, as keys."""
    met = {0: True}
    left = [0]
    while left:
        behinds = {behind: True for _, behind in machine.rows[left.pop()]}
        new = [behind for behind in behinds if behind not in met]
        met.update({behind: True for behind in new})
        left.extend(new)
    return met


def _rights_by(old, keys, others):
    """For each standing of old that is reached the standings of new with the same key; None for others."""
    right = {}
    for t, key in list(enumerate(others)):
        right.setdefault(key, []).append(t)
    reached = reached_from(old)
    return tuple([tuple(right.get(key, [])) if s in reached else None for s, key in enumerate(keys)])


def like_rights(old, new):
    """The rights by which each standing is like the one that it comes for."""
    check_shapes(old, new)
    many = len(old.rows)
    rows = list(old.rows) + [[(answer, many + behind) for answer, behind in row] for row in new.rows]
    told = splits(rows)[-1]
    return _rights_by(old, told[:many], told[many:])


def _answers(machine):
    return [tuple([answer for answer, _ in row]) for row in machine.rows]


def smooth_rights(old, new):
    """The rights by which each standing answers each one reading as the one that it comes for."""
    check_shapes(old, new)
    return _rights_by(old, _answers(old), _answers(new))


def common_rights(rights, other):
    """The rights with what both have."""
    if len(rights) != len(other):
        raise OtherShape()
    told = []
    for row, other_row in zip(rights, other):
        if row is None or other_row is None:
            told.append(None)
        else:
            told.append(tuple([t for t in row if t in other_row]))
    return tuple(told)


class Behind:
    """The places behind, as met: (p, number of the row answered, standing of old).

    What is behind one is told by joints (place of the moves in what the arena made, standing of old), which many share.
    """

    def __init__(self, arena, old):
        self.arena = arena
        self.old = old
        self.places = []
        self.numbers = {}
        self.joints = []
        self.behinds = {}
        self.meet(arena.first, 0, 0)
        while len(self.joints) < len(self.places):
            p, row, s = self.places[len(self.joints)]
            joint = (arena.place_at(p, row), s)
            self.joints.append(joint)
            if joint not in self.behinds:
                self.behinds[joint] = [self.meet(reading, q, s) for reading, q in list(arena.made.lots[joint[0]])]

    def meet(self, reading, p, s):
        """The number of the place behind the answer to the reading at p, old standing at s."""
        answer, behind = self.old.rows[s][number_of(reading)]
        place = (p, number_of(answer), behind)
        if place not in self.numbers:
            self.numbers[place] = len(self.places)
            self.places.append(place)
            if len(self.places) > 20000:
                raise TooMany(20000)
        return self.numbers[place]

    def moves_at(self):
        """For each standing of old the places, in what the arena made, of the moves at its places behind."""
        told = [{} for _ in self.old.rows]
        for place, s in list(self.behinds):
            told[s][place] = True
        return told


def places_behind(arena, old):
    """The places behind, as met."""
    check_plain(arena, old)
    return tuple([(p, arena.rows[row], s) for p, row, s in Behind(arena, old).places])


def loop_smooth(arena, old, new):
    """The rights by which each standing answers all that can come as the one that it comes for."""
    check_shapes(old, new)
    check_plain(arena, old)
    many = len(new.rows)
    masks = {}
    told = []
    for s, places in list(enumerate(Behind(arena, old).moves_at())):
        readings = {reading: True for place in places for reading, _ in arena.made.lots[place]}
        right = (1 << many) - 1
        for reading in list(readings):
            number = number_of(reading)
            key = (number, old.rows[s][number][0])
            if key not in masks:
                masks[key] = mask_of([t for t in range(many) if new.rows[t][number][0] == key[1]])
            right = right & masks[key]
        told.append(tuple(places_in(right)) if places else None)
    return tuple(told)


class Keeping:
    """The loops of a machine that may begin at any of its standings with any of some moves.

    For each move (reading, q) that can come a mask tells some standings of the machine, those that will read the
    reading.
    """

    def __init__(self, game, new, moves):
        self.game = game
        self.made = game.arena.made
        self.machine = new
        self.full = (1 << len(new.rows)) - 1
        self.told_readings = {}
        self.met_moves = list(moves)
        self.numbers = {move: number for number, move in enumerate(self.met_moves)}
        self.told_answers = []
        # For each place of moves: pairs of a move and the standings that lead there from it.
        self.before = {}
        while len(self.told_answers) < len(self.met_moves):
            self.told_answers.append(self.answers_at(len(self.told_answers)))
        self.all_ahead = self.ahead_by(self.made.lots)

    def reading(self, reading):
        """For the reading the masks of the standings by the rows that they answer, and by their next standings."""
        if reading not in self.told_readings:
            answers = {}
            behinds = {}
            number = number_of(reading)
            for t, row in list(enumerate(self.machine.rows)):
                answer, behind = row[number]
                told = number_of(answer)
                answers[told] = answers.get(told, 0) | (1 << t)
                behinds[behind] = behinds.get(behind, 0) | (1 << t)
            self.told_readings[reading] = (answers, behinds)
        return self.told_readings[reading]

    def answers_at(self, number):
        """The masks of this move by rows; the moves behind it are met."""
        reading, q = self.met_moves[number]
        answers = self.reading(reading)[0]
        places = {}
        for row, mask in answers.items():
            place = self.game.arena.place_at(q, row)
            places[place] = places.get(place, 0) | mask
        for place, mask in list(places.items()):
            if place not in self.before:
                self.before[place] = []
                for move in list(self.made.lots[place]):
                    if move not in self.numbers:
                        self.numbers[move] = len(self.met_moves)
                        self.met_moves.append(move)
            self.before[place].append((number, mask))
        return answers

    def ahead_by(self, lots):
        """For each move the places of moves that have it in these lots."""
        told = [[] for _ in self.met_moves]
        for place in list(self.before):
            for move in list(lots[place]):
                told[self.numbers[move]].append(place)
        return told

    def leading_to(self, masks, ahead):
        """The masks with all standings added from which moves lead into them."""
        told = list(masks)
        fresh = list(masks)
        gathered = {place: 0 for place in self.before}
        left = [number for number, mask in enumerate(masks) if mask != 0]
        while left:
            number = left.pop()
            now = fresh[number]
            fresh[number] = 0
            for place in list(ahead[number]):
                new = now & (now ^ gathered[place])
                if new != 0:
                    gathered[place] = gathered[place] | new
                    grown = self.lead_on(place, new, told, fresh)
                    left.extend(list(grown))
        return told

    def lead_on(self, place, new, told, fresh):
        """Add to what is told and fresh what leads to these standings by this place; the moves that were not fresh."""
        images = {}
        grown = []
        for number, mask in list(self.before[place]):
            reading = self.met_moves[number][0]
            if reading not in images:
                images[reading] = self.image(reading, new)
            more = images[reading] & mask
            more = more & (more ^ told[number])
            if more != 0:
                told[number] = told[number] | more
                if fresh[number] == 0:
                    grown.append(number)
                fresh[number] = fresh[number] | more
        return grown

    def image(self, reading, mask):
        """The standings that the reading leads into the mask."""
        behinds = self.reading(reading)[1]
        told = 0
        for t in places_in(mask):
            told = told | behinds.get(t, 0)
        return told

    def good(self):
        """For each move the standings at which the loop that begins with it is good."""
        game = self.game
        bad = []
        for (_, q), answers in zip(self.met_moves, self.told_answers):
            masks = [mask for row, mask in answers.items() if game.bad_at(q, row)]
            bad.append(self.full if game.nevers[q] else sum(masks))
        calm = self.ahead_by(self.made.calm_lots) if game.end_places else []
        for ends in game.end_places:
            reach = self.leading_to([self.full if ends[q] else 0 for _, q in self.met_moves], calm)
            bad = [mask | (self.full ^ told) for mask, told in zip(bad, reach)]
        return [self.full ^ mask for mask in self.leading_to(bad, self.all_ahead)]


def keeping_rights(game, old, new):
    """The rights by which the loop of new that goes on is good."""
    check_shapes(old, new)
    arena = game.arena
    check_plain(arena, old)
    places = Behind(arena, old).moves_at()
    every = {move: True for told in places for place in told for move in arena.made.lots[place]}
    keeping = Keeping(game, new, every)
    good = keeping.good()
    told = []
    for row in places:
        mask = keeping.full
        for place in row:
            for move in arena.made.lots[place]:
                mask = mask & good[keeping.numbers[move]]
        told.append(tuple(places_in(mask)) if row else None)
    return tuple(told)


def keeping_from(game, new, q, x, t):
    """True if the loop of new that begins at q with this reading, new standing at t, is good."""
    check_plain(game.arena, new)
    if not is_whole(q, 0, len(game.arena.standings) - 1):
        raise BadNumber("q")
    reading = check_row(x, len(new.inputs))
    if not is_whole(t, 0, len(new.rows) - 1):
        raise BadNumber("t")
    return (Keeping(game, new, [(reading, q)]).good()[0] >> t) & 1 == 1
