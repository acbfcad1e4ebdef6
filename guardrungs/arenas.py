"""Arenas: plants with a falling, waits and faults; and games, arenas with a wish."""

from guardrungs.bits import all_rows, check_row, is_listed, is_whole, number_of
from guardrungs.errors import BadFalling, BadNumber, BadPlant, BadWish, TooMany
from guardrungs.moves import Everywhere, Ground, is_falling, open_changes
from guardrungs.wishes import are_patterns, fits

FAULT_KINDS = ("stuck0", "stuck1", "late")


def _told_waits(waits):
    """The waits as tuples, also inside."""
    if not is_listed(waits):
        raise BadWish("wait", -1)
    for place, wait in enumerate(waits):
        if not isinstance(wait, tuple) or len(wait) != 3 or not is_whole(wait[2], 1, 8):
            raise BadWish("wait", place)
        if not are_patterns(wait[0]) or not are_patterns(wait[1]):
            raise BadWish("wait", place)
    return tuple([(tuple(begin), tuple(end), most) for begin, end, most in waits])


def _told_faults(faults, inputs):
    """The faults as tuples."""
    if not is_listed(faults):
        raise BadPlant("fault", -1)
    met = {}
    for place, fault in enumerate(faults):
        if not isinstance(fault, tuple) or len(fault) != 2 or not is_whole(fault[0], 0, inputs - 1):
            raise BadPlant("fault", place)
        if fault[1] not in FAULT_KINDS or fault in met:
            raise BadPlant("fault", place)
        met[fault] = True
    return tuple(faults)


def _told_bit(kind, bit, last):
    """What an input with this fault tells; last is its true bit of the reading before."""
    if kind == "late":
        return last
    return {"": bit, "stuck0": 0, "stuck1": 1}[kind]


class Making:
    """Finds the standings of an arena and the moves of each.

    Rows that let the same changes come are one choice. For each choice and each arena standing, moved tells the place
    of its moves in lots; many standings share one. calm_lots has the calm ones of them, over tells whether a wait
    can run out by one.
    """

    def __init__(self, arena):
        self.arena = arena
        self.plant = arena.plant
        self.ground = Ground(self.plant, self.plant.origin)
        # If single changes are falling rows, all that changes lead to belongs to the arena.
        if arena.fewest <= 1 and arena.most != 0 and not self.ground.met_within(600):
            raise TooMany(600)
        self.is_late = any([kind == "late" for _, kind in arena.faults])
        self.choices = self.numbered_choices()
        self.falls = [self.fallen(self.choices.index(choice)) for choice in range(max(self.choices) + 1)]
        self.levels = {}
        self.plant_moves = {}
        self.numbers = {self.start_standing(): 0}
        self.standings = [self.start_standing()]
        self.places = {}
        self.lots = []
        self.calm_lots = []
        self.over = []
        self.moved = []
        self.make()

    def numbered_choices(self):
        """For each row the number of its choice."""
        numbers = {}
        for row in self.arena.rows:
            numbers.setdefault(open_changes(self.plant, row), len(numbers))
        return [numbers[open_changes(self.plant, row)] for row in self.arena.rows]

    def fallen(self, number):
        """What falling rows lead to under the row with this number; None if there are no changes."""
        if self.arena.most == 0:
            return None
        everywhere = Everywhere(self.ground, self.arena.rows[number])
        everywhere.fall(self.arena.fewest, self.arena.most)
        return everywhere

    def start_standing(self):
        """The arena standing at the start."""
        plant = self.plant
        counts, _ = self.counted((0,) * len(self.arena.waits), plant.origin)
        return (plant.origin, counts, ("",) * len(plant.inputs), self.laid_by(plant.level_row(plant.origin)))

    def laid_by(self, reading):
        """What is kept of a true reading."""
        return reading if self.is_late else ()

    def counted(self, counts, standing):
        """The counts behind a reading at this plant standing, and whether a wait runs out."""
        told = []
        over = False
        for left, (begin, end, most) in zip(counts, self.arena.waits):
            if left > 0:
                ended = fits(end, standing)
                over = over or (left == 1 and not ended)
                told.append(0 if ended else left - 1)
            else:
                begins = fits(begin, standing) and not fits(end, standing)
                told.append(most if begins else 0)
        return tuple(told), over

    def tellings(self, states, true, last):
        """All ways in which faults can begin: what the inputs tell, and the states behind it."""
        ways = [((), (), len([kind for kind in states if kind != ""]))]
        for place, (state, bit) in list(enumerate(zip(states, true))):
            ahead = last[place] if last else 0
            kinds = [state]
            if state == "":
                may = [kind for at, kind in self.arena.faults if at == place]
                kinds.extend([kind for kind in may if _told_bit(kind, bit, ahead) != bit])
            longer = []
            for told, behind, many in list(ways):
                for kind in list(kinds):
                    now = many if kind == state else many + 1
                    if kind == state or now <= self.arena.many:
                        longer.append((told + (_told_bit(kind, bit, ahead),), behind + (kind,), now))
            ways = longer
        return [(told, behind) for told, behind, _ in ways]

    def true_reading(self, marks, number):
        """The true reading at a plant standing with these marks."""
        if (marks, number) not in self.levels:
            row = self.plant.level_row(self.ground.standings[number])
            told = [bit | mark for bit, mark in zip(row, self.ground.marks_row(marks))]
            self.levels[(marks, number)] = tuple(told)
        return self.levels[(marks, number)]

    def moves_of_plant(self, choice, lot):
        """Pairs of true reading and plant standing for a lot that falling rows lead to."""
        if (choice, lot) not in self.plant_moves:
            pairs = self.falls[choice].pairs_of(lot)
            told = [(self.true_reading(marks, number), self.ground.standings[number]) for marks, number in pairs]
            self.plant_moves[(choice, lot)] = told
        return self.plant_moves[(choice, lot)]

    def make(self):
        """Number all standings and find their moves."""
        while len(self.moved) < len(self.standings):
            standing = self.standings[len(self.moved)]
            self.moved.append([self.place_of(choice, standing) for choice in range(len(self.falls))])

    def place_of(self, choice, standing):
        """The place in lots of the moves of this standing."""
        origin, counts, states, last = standing
        if self.falls[choice] is None:
            key = standing
        else:
            key = (choice, self.falls[choice].lots[self.ground.numbers[origin]], counts, states, last)
        if key not in self.places:
            if self.falls[choice] is None:
                moves = [(self.plant.level_row(origin), origin)]
            else:
                moves = self.moves_of_plant(choice, key[1])
            self.places[key] = len(self.lots)
            self.add_moves(moves, standing)
        return self.places[key]

    def add_moves(self, moves, standing):
        """Add what these moves of the plant lead to from the standing."""
        _, counts, states, last = standing
        over = False
        told = {}
        for true, behind in moves:
            left, runs_out = self.counted(counts, behind)
            over = over or runs_out
            for reading, kinds in self.tellings(states, true, last):
                told[(reading, (behind, left, kinds, self.laid_by(true)))] = True
        for _, behind in sorted(list(told)):
            if behind not in self.numbers:
                self.numbers[behind] = len(self.standings)
                self.standings.append(behind)
                if len(self.standings) > 600:
                    raise TooMany(600)
        lot = tuple(sorted([(reading, self.numbers[behind]) for reading, behind in told]))
        self.lots.append(lot)
        self.calm_lots.append([(reading, q) for reading, q in lot if self.standings[q][2] == states])
        self.over.append(over)


class Arena:
    """A plant with a falling, waits and faults; its standings are numbered from 0."""

    def __init__(self, plant, least, most, *, waits=(), faults=(), many=0):
        if not is_falling(least, most):
            raise BadFalling()
        self.plant = plant
        self.fewest = least
        self.most = most
        self.waits = _told_waits(waits)
        self.faults = _told_faults(faults, len(plant.inputs))
        if not is_whole(many, 0, 3):
            raise BadNumber("many")
        self.many = many
        self.rows = all_rows(plant.outputs)
        self.first = plant.level_row(plant.origin)
        self.made = Making(self)
        self.standings = tuple(self.made.standings)

    def __len__(self):
        return len(self.standings)

    def checked_standing(self, p):
        """Raise BadNumber unless p is the number of a standing."""
        if not is_whole(p, 0, len(self.standings) - 1):
            raise BadNumber("standing")

    def checked_row(self, y):
        """The number of a row of outputs."""
        return number_of(check_row(y, self.plant.outputs))

    def place_at(self, p, row):
        """The place, in what was made, of the moves from p under the row with this number."""
        return self.made.moved[p][self.made.choices[row]]

    def moves(self, p, y):
        """The pairs of reading and standing behind it."""
        self.checked_standing(p)
        return self.made.lots[self.place_at(p, self.checked_row(y))]

    def readings_at(self, p, y):
        """The readings of these moves."""
        return tuple(sorted({reading for reading, _ in self.moves(p, y)}))

    def overdue(self, p, y):
        """True if some move lets a wait run out."""
        self.checked_standing(p)
        return self.made.over[self.place_at(p, self.checked_row(y))]

    def calm(self, p, q):
        """True if each input that has no fault at p has none at q."""
        self.checked_standing(p)
        self.checked_standing(q)
        states = self.standings[p][2]
        return all([kind != "" or behind == "" for kind, behind in zip(states, self.standings[q][2])])

    def sound(self, p):
        """True if no input has a fault."""
        self.checked_standing(p)
        return all([kind == "" for kind in self.standings[p][2]])

    def plant_standing(self, p):
        """The plant standing at p."""
        self.checked_standing(p)
        return self.standings[p][0]


class Game:
    """An arena and a wish."""

    def __init__(self, arena, wish):
        self.arena = arena
        self.wish = wish
        self.nevers = [fits(wish.never, standing[0]) for standing in arena.standings]
        self.end_places = [[fits(end, standing[0]) for standing in arena.standings] for end in wish.ends]
        choices = arena.made.choices
        self.met = [self._meeting(arena.rows[choices.index(choice)]) for choice in range(max(choices) + 1)]

    def _meeting(self, row):
        """The plant standings, as keys, from which some falling row under this row meets a place of never."""
        ground = self.arena.made.ground
        if self.arena.most == 0:
            return {}
        ahead = {}
        for number in range(len(ground.standings)):
            for _, behind in list(ground.ways_from(number, row)):
                ahead.setdefault(behind, []).append(number)
        fresh = [number for number, standing in enumerate(ground.standings) if fits(self.wish.never, standing)]
        met = {}
        left = self.arena.most
        while fresh and left != 0:
            told = {number: True for behind in fresh for number in ahead.get(behind, [])}
            fresh = [number for number in told if number not in met]
            met.update({number: True for number in fresh})
            left = None if left is None else left - 1
        return {ground.standings[number]: True for number in met}

    def in_never(self, p):
        """True if p is in never."""
        self.arena.checked_standing(p)
        return self.nevers[p]

    def bad_at(self, p, row):
        """True if the row with this number is bad at p."""
        if self.arena.standings[p][0] in self.met[self.arena.made.choices[row]]:
            return True
        return self.arena.made.over[self.arena.place_at(p, row)]

    def bad(self, p, y):
        """True if y is bad at p."""
        self.arena.checked_standing(p)
        return self.bad_at(p, self.arena.checked_row(y))

    def ends_at(self, p):
        """The numbers of the ends that p is in."""
        self.arena.checked_standing(p)
        return tuple([number for number, places in enumerate(self.end_places) if places[p]])

    def is_end(self, p, j):
        """True if p is in end j."""
        self.arena.checked_standing(p)
        if not is_whole(j, 0, len(self.wish.ends) - 1):
            raise BadNumber("end")
        return self.end_places[j][p]
