"""Drums: rows of asks that, asked round and round, make the freest guard a good plain one."""

from guardrungs.bits import is_whole, mask_of, number_of, places_in
from guardrungs.books import Book, numbered_names
from guardrungs.errors import BadNumber, TooMany
from guardrungs.freest import Freest, check_guards
from guardrungs.known import check_rows
from guardrungs.tables import Field


class Beat:
    """The pairs of a lot of the table and a standing of it, and how calm runs of the freest guard lead on.

    A lot of pairs is an integer with ones at the places of their numbers.
    """

    def __init__(self, table):
        self.table = table
        self.ends = table.game.end_places
        self.pairs = [(lot, p) for lot in table.lots for p in lot]
        self.numbers = {pair: number for number, pair in enumerate(self.pairs)}
        # For each pair its calm steps under the rows that hold, by the choices of these rows.
        self.steps = []
        for lot, p in list(self.pairs):
            told = {}
            for row, _, q, behind in list(table.calm_steps(lot, p)):
                told.setdefault(self.choice_of(row), []).append((row, self.numbers[(behind, q)]))
            self.steps.append(told)
        self.images = {}

    def choice_of(self, row):
        """The choice of this row."""
        arena = self.table.game.arena
        return arena.made.choices[arena.checked_row(row)]

    def behind(self, number, row):
        """The pairs to which a calm move leads from this one if the row is asked."""
        lot, _ = self.pairs[number]
        rows = self.table.told_rows[lot]
        written = row if row in rows else rows[0]
        return [behind for _, behind in self.steps[number][self.choice_of(written)]]

    def masks_behind(self, row):
        """For each pair the mask of the pairs behind it if the row is asked."""
        if row not in self.images:
            self.images[row] = [mask_of(self.behind(number, row)) for number in range(len(self.pairs))]
        return self.images[row]

    def in_end(self, end):
        """The mask of the pairs that are in the end."""
        return mask_of([number for number, (_, p) in enumerate(self.pairs) if self.ends[end][p]])

    def distances_to(self, end):
        """For each pair how many calm steps, under rows that hold, a shortest path to the end has."""
        before = [[] for _ in self.pairs]
        for number, told in list(enumerate(self.steps)):
            for _, behind in [step for steps in told.values() for step in steps]:
                before[behind].append(number)
        left = [number for number, (_, p) in enumerate(self.pairs) if self.ends[end][p]]
        told = {number: 0 for number in left}
        at = 0
        while at < len(left):
            behind = left[at]
            for number in list(before[behind]):
                if number not in told:
                    told[number] = told[behind] + 1
                    left.append(number)
            at += 1
        return told

    def path_rows(self, number, distances):
        """The rows of a shortest path from the pair to where the distance is 0."""
        rows = []
        while distances[number] > 0:
            steps = [step for told in self.steps[number].values() for step in told]
            row, number = [step for step in steps if distances[step[1]] < distances[number]][0]
            rows.append(row)
        return rows


class Roll:
    """A row of asks in the making, and where calm runs can be behind it from each pair."""

    def __init__(self, beat):
        self.beat = beat
        self.rows = []
        self.now = [1 << number for number in range(len(beat.pairs))]
        self.ends = [beat.in_end(end) for end in range(len(beat.ends))]
        self.distances = [beat.distances_to(end) for end in range(len(beat.ends))]
        everywhere = (1 << len(beat.pairs)) - 1
        self.lacking = [places_in(everywhere ^ mask) for mask in self.ends]

    def ask(self, row):
        """Add a row."""
        masks = self.beat.masks_behind(row)
        images = {}
        for mask in self.now:
            if mask not in images:
                image = 0
                for number in places_in(mask):
                    image = image | masks[number]
                images[mask] = image
        self.now = [images[mask] for mask in self.now]
        self.rows.append(row)
        for end, mask in list(enumerate(self.ends)):
            self.lacking[end] = [number for number in self.lacking[end] if self.now[number] & mask == 0]

    def bring(self, number, end):
        """Add rows by which a run that began at this pair comes to the end."""
        distances = self.distances[end]
        nearest = min([(distances[other], other) for other in places_in(self.now[number])])[1]
        rows = self.beat.path_rows(nearest, distances)
        for row in rows:
            self.ask(row)


def drum_of(table):
    """A drum."""
    check_guards(table)
    if sum([len(lot) for lot in table.lots]) > 400:
        raise TooMany(400)
    roll = Roll(Beat(table))
    for end in range(len(roll.ends)):
        while roll.lacking[end]:
            roll.bring(roll.lacking[end][0], end)
    return tuple(roll.rows) if roll.rows else (table.game.arena.rows[0],)


class Backwards:
    """For each lot of the table, as a mask, the standings from which calm runs of the freest guard come to an end.

    The guard is asked rows; the last one is looked at first.
    """

    def __init__(self, table, end):
        arena = table.game.arena
        self.table = table
        self.choices = arena.made.choices
        self.field = Field(table.game, table.reached_lots, table.steps)
        self.numbers = [table.reached_numbers[lot] for lot in table.lots]
        places = table.game.end_places[end]
        self.there = {number: mask_of([p for p in self.field.lots[number] if places[p]]) for number in self.numbers}
        self.now = dict(self.there)
        self.told_begins = {}

    def choice_at(self, number, row):
        """The choice of the row that the guard writes at this lot if it is asked this row."""
        rows = self.table.told_rows[self.field.lots[number]]
        return self.choices[number_of(row if row in rows else rows[0])]

    def begins(self, choice, reading, mask):
        """As the field tells it; what was told once is kept."""
        key = (choice, reading, mask)
        if key not in self.told_begins:
            self.told_begins[key] = self.field.begins(choice, reading, mask)
        return self.told_begins[key]

    def ask_ahead(self, row):
        """Let this row be asked ahead of all others."""
        ahead = dict(self.there)
        for number in list(self.numbers):
            choice = self.choice_at(number, row)
            for reading, behind in list(self.field.steps[number][choice]):
                begins = self.begins(choice, reading, self.now[behind])
                ahead[number] = ahead[number] | (begins & self.field.masks[number])
        self.now = ahead

    def is_everywhere(self):
        """True if the end is reached from each standing of each lot."""
        return all([self.now[number] == self.field.masks[number] for number in self.numbers])


def is_drum(table, rows):
    """True if these rows are a drum."""
    told = check_rows(rows, table.game.arena.plant.outputs)
    if not told or not table.guards:
        return False
    for end in range(len(table.game.wish.ends)):
        backwards = Backwards(table, end)
        for row in reversed(list(told)):
            backwards.ask_ahead(row)
        if not backwards.is_everywhere():
            return False
    return True


class Drummed(Book):
    """The freest guard that is asked rows round and round; a plain guard."""

    def __init__(self, table, rows, *, begin=0):
        check_guards(table)
        self.rows = check_rows(rows, table.game.arena.plant.outputs)
        if not self.rows:
            raise BadNumber("rows")
        if not is_whole(begin, 0, len(self.rows) - 1):
            raise BadNumber("begin")
        self.begin = begin
        self.freest = Freest(table)
        self.inputs = numbered_names("x", len(table.game.arena.plant.inputs))
        self.outputs = self.freest.outputs

    def start(self):
        """The freest guard's start, and the place of the first ask."""
        return self.freest.start() + (self.begin,)

    def step(self, standing, reading):
        """The answer and the next standing."""
        row = self.checked(reading)
        answer, behind = self.freest.step(standing[:2], row + self.rows[standing[2]])
        return answer, behind + ((standing[2] + 1) % len(self.rows),)
