"""Tables: lots at which some row holds, so that nothing bad comes and each end stays in reach."""

from guardrungs.bits import is_listed, is_whole, mask_of, places_in
from guardrungs.errors import BadLot, BadNumber
from guardrungs.known import Reached, Spread, check_lot, steps_to


class Field:
    """Lots, some of them left, and for each what is behind it.

    steps[k][choice] has pairs of reading and number of the lot behind, -1 for one that is none of the lots. lost
    counts, for each lot and choice, what speaks against its rows: that they are bad, and each lot behind that is not
    left.
    """

    def __init__(self, game, lots, steps):
        self.game = game
        self.made = game.arena.made
        self.lots = lots
        self.steps = steps
        self.left = [True] * len(lots)
        self.masks = [mask_of(lot) for lot in lots]
        self.ahead = [[] for _ in lots]
        self.lost = []
        for number, lot in list(enumerate(lots)):
            self.lost.append([self.against(number, lot, choice) for choice in range(len(steps[number]))])
        self.calm_before = None

    def against(self, number, lot, choice):
        """How much speaks against the rows of the choice as long as all lots are left."""
        many = 0
        row = self.made.choices.index(choice)
        if any([self.game.bad_at(p, row) for p in lot]):
            many += 1
        for reading, behind in list(self.steps[number][choice]):
            if behind < 0:
                many += 1
            else:
                self.ahead[behind].append((number, choice, reading))
        return many

    def holding(self, number):
        """The choices whose rows hold at this lot in the lots that are left."""
        return [choice for choice, many in enumerate(self.lost[number]) if many == 0]

    def throw_out(self, number):
        """Let this lot be left no more."""
        self.left[number] = False
        for other, choice, _ in list(self.ahead[number]):
            lost = self.lost[other]
            lost[choice] += 1

    def begins(self, choice, reading, mask):
        """The mask of the standings from which a calm move with this reading leads to a standing of the mask."""
        if self.calm_before is None:
            self.calm_before = self._calm_before()
        before = self.calm_before[choice]
        told = 0
        for q in places_in(mask):
            told = told | before.get((reading, q), 0)
        return told

    def _calm_before(self):
        """For each choice a dict from moves to the standings from which they are calm."""
        told = []
        for choice in range(max(self.made.choices) + 1):
            masks = {}
            for p, places in enumerate(self.made.moved):
                masks[places[choice]] = masks.get(places[choice], 0) | (1 << p)
            before = {}
            for place, mask in masks.items():
                for move in self.made.calm_lots[place]:
                    before[move] = before.get(move, 0) | mask
            told.append(before)
        return told

    def reach(self, end):
        """For each lot left the mask of its standings from which a path leads to the end; 0 for others."""
        places = self.game.end_places[end]
        told = []
        for lot, is_left in zip(self.lots, self.left):
            told.append(mask_of([p for p in lot if places[p]]) if is_left else 0)
        fresh = list(told)
        left = [number for number, mask in enumerate(fresh) if mask != 0]
        while left:
            number = left.pop()
            now = fresh[number]
            fresh[number] = 0
            for other, choice, reading in self.ahead[number]:
                lacking = self.masks[other] ^ told[other]
                if lacking != 0 and self.left[other] and self.lost[other][choice] == 0:
                    new = self.begins(choice, reading, now) & lacking
                    if new != 0:
                        told[other] = told[other] | new
                        if fresh[other] == 0:
                            left.append(other)
                        fresh[other] = fresh[other] | new
        return told

    def without_end(self):
        """The numbers of the lots left that have a standing from which no path leads to some end."""
        told = {}
        for end in range(len(self.game.wish.ends)):
            masks = self.reach(end)
            told.update({number: True for number, mask in enumerate(masks) if mask != self.masks[number]})
        return [number for number in told if self.left[number]]

    def has_never(self, number):
        """True if a standing of the lot is in never."""
        return any([self.game.nevers[p] for p in self.lots[number]])


def rounds_of(field, by_ends):
    """Throw out, round by round, the lots that break a condition; for each lot its round, None for those left."""
    told = [0 if field.has_never(number) else None for number in range(len(field.lots))]
    thrown = [number for number, at in enumerate(told) if at == 0]
    at = 0
    while thrown or at == 0:
        for number in thrown:
            field.throw_out(number)
        at += 1
        left = [number for number, is_left in enumerate(field.left) if is_left]
        broken_now = {number: True for number in left if not field.holding(number)}
        if by_ends:
            broken_now.update({number: True for number in field.without_end()})
        thrown = list(broken_now)
        for number in thrown:
            told[number] = at
    return told


class Table:
    """The greatest table of a game."""

    def __init__(self, game):
        self.game = game
        arena = game.arena
        reached = Reached(arena)
        field = Field(game, reached.lots, reached.steps)
        rounds = rounds_of(field, True)
        self.steps = reached.steps
        self.reached_lots = reached.lots
        self.round_numbers = {lot: at for lot, at in zip(reached.lots, rounds)}
        self.lots = tuple(sorted([lot for lot, at in zip(reached.lots, rounds) if at is None]))
        self.places = {lot: place for place, lot in enumerate(self.lots)}
        self.told_rows = {}
        for number, lot in list(enumerate(reached.lots)):
            if rounds[number] is None:
                choices = {choice: True for choice in field.holding(number)}
                held = [row for row, choice in zip(arena.rows, arena.made.choices) if choice in choices]
                self.told_rows[lot] = tuple(held)
        self.reached_numbers = {lot: number for number, lot in enumerate(reached.lots)}

    @property
    def guards(self):
        """True if there is a good guard."""
        return (0,) in self.told_rows

    def __contains__(self, lot):
        return check_lot(self.game.arena, lot) in self.told_rows

    def __getitem__(self, lot):
        return self.let_at(lot)

    def __len__(self):
        return len(self.lots)

    def __iter__(self):
        return iter(self.lots)

    def let_at(self, lot):
        """The rows that hold at the lot, if it is one of the table."""
        return self.told_rows.get(check_lot(self.game.arena, lot), ())

    def holding(self, lot):
        """The rows that hold at this lot, reached or not, in the set of the table's lots."""
        told = check_lot(self.game.arena, lot)
        arena = self.game.arena
        masks = {mask_of(other): True for other in self.lots}
        spread = Spread(arena)
        held = {}
        for row, choice in enumerate(arena.made.choices):
            if choice not in held:
                behind = spread.behind(told, choice)
                is_bad = any([self.game.bad_at(p, row) for p in told])
                held[choice] = not is_bad and all([mask in masks for _, mask in behind])
        return tuple([row for row, choice in zip(arena.rows, arena.made.choices) if held[choice]])

    def round_of(self, lot):
        """The number of the round that throws the lot out; None for a lot of the table."""
        told = check_lot(self.game.arena, lot)
        if told not in self.round_numbers:
            raise BadLot(-1)
        return self.round_numbers[told]

    def lot_after(self, lot, row, reading):
        """The lot behind a reached lot; None if nothing can come. row is a number."""
        choice = self.game.arena.made.choices[row]
        for told, behind in self.steps[self.reached_numbers[lot]][choice]:
            if told == reading:
                return self.reached_lots[behind]
        return None

    def calm_steps(self, lot, p):
        """For each calm move from p of the lot under a row that holds: row, reading, standing and lot behind."""
        arena = self.game.arena
        told = []
        met = {}
        for row in self.told_rows[lot]:
            number = arena.checked_row(row)
            choice = arena.made.choices[number]
            if choice not in met:
                met[choice] = True
                behind = {reading: other for reading, other in self.steps[self.reached_numbers[lot]][choice]}
                for reading, q in arena.made.calm_lots[arena.place_at(p, number)]:
                    told.append((row, reading, q, self.reached_lots[behind[reading]]))
        return told

    def path(self, lot, p, j):
        """A shortest path from p of this lot to end j."""
        told = check_lot(self.game.arena, lot)
        if told not in self.told_rows:
            raise BadLot(-1)
        if not is_whole(p, 0, None) or p not in told:
            raise BadNumber("p")
        if not is_whole(j, 0, len(self.game.wish.ends) - 1):
            raise BadNumber("end")
        before = {(told, p): None}
        left = [(told, p)]
        at = 0
        while not self.game.is_end(left[at][1], j):
            pair = left[at]
            for row, reading, q, behind in self.calm_steps(pair[0], pair[1]):
                if (behind, q) not in before:
                    before[(behind, q)] = (pair, (row, reading, q))
                    left.append((behind, q))
            at += 1
        return steps_to(before, left[at])


def _told_lots(arena, lots):
    """The lots as tuples."""
    if not is_listed(lots):
        raise BadLot(-1)
    return [check_lot(arena, lot) for lot in lots]


def broken(game, lots):
    """The first of the lots that breaks a condition of tables, and how; None if they are a table."""
    told = _told_lots(game.arena, lots)
    numbers = {}
    for lot in told:
        numbers.setdefault(mask_of(lot), len(numbers))
    different = list({lot: True for lot in told})
    spread = Spread(game.arena)
    choices = range(max(game.arena.made.choices) + 1)
    steps = []
    for lot in different:
        behinds = [spread.behind(lot, choice) for choice in choices]
        steps.append([[(reading, numbers.get(mask, -1)) for reading, mask in pairs] for pairs in behinds])
    field = Field(game, different, steps)
    reaches = [field.reach(end) for end in range(len(game.wish.ends))]
    for number, lot in enumerate(different):
        nevers = [p for p in lot if game.nevers[p]]
        if nevers:
            return (lot, "never", nevers[0])
        if not field.holding(number):
            return (lot, "rows", None)
        for p in lot:
            for end, masks in enumerate(reaches):
                if (masks[number] >> p) & 1 == 0:
                    return (lot, "end", (p, end))
    return None


def is_table(game, lots):
    """True if the set of the lots is a table."""
    return broken(game, lots) is None
