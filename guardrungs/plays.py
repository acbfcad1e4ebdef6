"""Plays that beat every guard, where there is no good one."""

from guardrungs.bits import is_listed, is_row, is_whole
from guardrungs.errors import BadNumber, HasGuard, OtherShape
from guardrungs.known import Reached
from guardrungs.loops import fits_plain
from guardrungs.plants import is_rising
from guardrungs.tables import Field, Table, rounds_of


def _reasons(field, number):
    """For each row a reason why it does not hold at this lot in the lots that are left."""
    game = field.game
    lot = field.lots[number]
    told = {}
    for row, choice in enumerate(field.made.choices):
        if choice not in told:
            bad = [p for p in lot if game.bad_at(p, row)]
            if bad:
                told[choice] = ("bad", bad[0])
            else:
                pairs = field.steps[number][choice]
                told[choice] = ("reading", [reading for reading, behind in pairs if not field.left[behind]][0])
    return tuple([told[choice] for choice in field.made.choices])


def _shut_at(field, number, reaches):
    """A standing of the lot from which no path leads to an end, and the end."""
    for p in field.lots[number]:
        for end, masks in enumerate(reaches):
            if (masks[number] >> p) & 1 == 0:
                return (p, end)
    return None


def _entries(field, numbers):
    """The entries of these lots, which one round throws out."""
    entries = []
    reaches = None
    for number in numbers:
        lot = field.lots[number]
        if field.has_never(number):
            entries.append((lot, "never", [p for p in lot if field.game.nevers[p]][0]))
        elif not field.holding(number):
            entries.append((lot, "rows", _reasons(field, number)))
        else:
            if reaches is None:
                reaches = [field.reach(end) for end in range(len(field.game.wish.ends))]
            entries.append((lot, "shut", _shut_at(field, number, reaches)))
    return entries


def play_up_to(table, number):
    """All lots that are thrown out in rounds ahead of that of the reached lot with this number, and then this lot."""
    game = table.game
    field = Field(game, table.reached_lots, table.steps)
    last = table.round_numbers[field.lots[number]]
    entries = []
    for at in range(last + 1):
        numbers = [other for other, lot in enumerate(field.lots) if table.round_numbers[lot] == at]
        entries.extend(_entries(field, numbers if at < last else [number]))
        for other in numbers:
            field.throw_out(other)
    return tuple(entries)


def play_of(game):
    """A play: all lots that are thrown out in rounds ahead of that of (0,), and then this lot."""
    table = Table(game)
    if table.guards:
        raise HasGuard()
    return play_up_to(table, 0)


class Checking:
    """Looks at the entries of a play, one behind the other; the lots of those that are right are thrown out."""

    def __init__(self, game):
        reached = Reached(game.arena)
        self.game = game
        self.field = Field(game, reached.lots, reached.steps)
        self.numbers = {lot: number for number, lot in enumerate(reached.lots)}
        self.reaches = {}

    def is_right(self, entry):
        """True if the entry is right by those ahead, whose lots are thrown out."""
        if not isinstance(entry, tuple) or len(entry) != 3 or not isinstance(entry[0], tuple):
            return False
        lot, word, data = entry
        if not is_rising(lot, 0, None) or lot not in self.numbers or not self.field.left[self.numbers[lot]]:
            return False
        if word == "never":
            return is_whole(data, 0, None) and data in lot and self.game.nevers[data]
        if word == "rows":
            return self.are_reasons(lot, data)
        return word == "shut" and self.is_shut(lot, data)

    def are_reasons(self, lot, reasons):
        """True if these are reasons for all rows."""
        if not isinstance(reasons, tuple) or len(reasons) != len(self.game.arena.rows):
            return False
        return all([self.is_reason(lot, row, reason) for row, reason in enumerate(reasons)])

    def is_reason(self, lot, row, reason):
        """True if this is a reason for the row with this number."""
        if not isinstance(reason, tuple) or len(reason) != 2:
            return False
        word, data = reason
        if word == "bad":
            return is_whole(data, 0, None) and data in lot and self.game.bad_at(data, row)
        inputs = len(self.game.arena.plant.inputs)
        if word != "reading" or not isinstance(data, tuple) or not is_row(data, inputs):
            return False
        behind = self.behind(lot, row, data)
        return behind is not None and not self.field.left[behind]

    def behind(self, lot, row, reading):
        """The number of the lot behind; None if nothing can come."""
        pairs = self.field.steps[self.numbers[lot]][self.field.made.choices[row]]
        for told, number in pairs:
            if told == reading:
                return number
        return None

    def is_shut(self, lot, data):
        """True if no calm run from the lot and standing leads to the end by rows that are not lost."""
        if not isinstance(data, tuple) or len(data) != 2:
            return False
        p, end = data
        if not is_whole(p, 0, None) or p not in lot or not is_whole(end, 0, len(self.game.wish.ends) - 1):
            return False
        # What was in no reach of the end with fewer lots thrown out is in none now.
        if end not in self.reaches or self.is_in_reach(lot, p, end):
            self.reaches[end] = self.field.reach(end)
        return not self.is_in_reach(lot, p, end)

    def is_in_reach(self, lot, p, end):
        """True if, by what is kept, a path leads to the end."""
        return (self.reaches[end][self.numbers[lot]] >> p) & 1 == 1

    def wrong(self, play, last=(0,)):
        """The place of the first entry that is not right; None if this is a play to the lot last."""
        if not is_listed(play):
            return 0
        for place, entry in enumerate(play):
            if not self.is_right(entry):
                return place
            self.field.throw_out(self.numbers[entry[0]])
        return None if len(play) > 0 and play[-1][0] == last else len(play)


def reason_wrong(game, play):
    """The place of what is not right first; None if this is a play."""
    return Checking(game).wrong(play)


def is_play(game, play):
    """True if this is a play."""
    return reason_wrong(game, play) is None


class Beating:
    """Finds a run by which a play beats a plain book.

    A node is (lot, trace, reading, standing): the known lot, where its trace stands, the last reading and the book's
    standing, which has not answered it yet. A trace is (trace ahead, lot ahead, answer, reading), None at the start.
    """

    def __init__(self, game, play, book, checking):
        self.game = game
        self.book = book
        self.checking = checking
        self.entries = {entry[0]: (place, entry[1], entry[2]) for place, entry in enumerate(play)}
        self.traces = [None]
        self.told_against = {}

    def found(self):
        """The word, a run and what is told behind it."""
        node = ((0,), 0, self.game.arena.first, self.book.start())
        while True:
            place, word, data = self.entries[node[0]]
            if word == "never":
                return self.bad_run(node[1], data, None)
            if word == "shut":
                begin = node
                node = self.lost_behind(place, begin, data[0])
                if node is None:
                    return ("shut", self.run_to(begin[1], data[0]), data[1])
            answer, behind = self.book.step(node[3], node[2])
            word, data = self.against(place, node[0], answer)
            if word == "bad":
                return self.bad_run(node[1], data, answer)
            node = self.node_behind(node, answer, data, behind)

    def against(self, place, lot, answer):
        """What speaks against the answer by the entries ahead of this place; None if nothing does."""
        key = (place, self.checking.numbers[lot], answer)
        if key not in self.told_against:
            self.told_against[key] = self.found_against(place, lot, answer)
        return self.told_against[key]

    def found_against(self, place, lot, answer):
        """The same, worked out."""
        row = self.game.arena.checked_row(answer)
        for p in lot:
            if self.game.bad_at(p, row):
                return ("bad", p)
        field = self.checking.field
        for reading, number in field.steps[self.checking.numbers[lot]][field.made.choices[row]]:
            entry = self.entries.get(field.lots[number], (place,))
            if entry[0] < place:
                return ("reading", reading)
        return None

    def node_behind(self, node, answer, reading, standing):
        """The node behind an answer and a reading."""
        lot, trace, _, _ = node
        self.traces.append((trace, lot, answer, reading))
        number = self.checking.behind(lot, self.game.arena.checked_row(answer), reading)
        return (self.checking.field.lots[number], len(self.traces) - 1, reading, standing)

    def lost_behind(self, place, node, p):
        """The first node at which the book's answer is lost, on calm runs from p; None if there is none."""
        arena = self.game.arena
        met = {}
        left = [(node, p)]
        at = 0
        while at < len(left):
            node, p = left[at]
            answer, standing = self.book.step(node[3], node[2])
            if self.against(place, node[0], answer) is not None:
                return node
            for reading, q in arena.made.calm_lots[arena.place_at(p, arena.checked_row(answer))]:
                behind = self.node_behind(node, answer, reading, standing)
                if (behind[0], q, reading, standing) not in met:
                    met[(behind[0], q, reading, standing)] = True
                    left.append((behind, q))
            at += 1
        return None

    def run_to(self, trace, p):
        """A run with the readings and answers of the trace that ends at p."""
        steps = []
        while self.traces[trace] is not None:
            trace, lot, answer, reading = self.traces[trace]
            steps.append((answer, reading, p))
            p = [q for q in lot if (reading, p) in self.game.arena.moves(q, answer)][0]
        return tuple(reversed(list(steps)))

    def bad_run(self, trace, p, answer):
        """The run to p with the answer there, up to its first bad answer."""
        run = self.run_to(trace, p)
        now = 0
        for place, (told, _, behind) in enumerate(run):
            if self.game.bad(now, told):
                return ("bad", run[:place], told)
            now = behind
        return ("bad", run, answer)


def beaten(game, play, book):
    """How the play beats the book: a run that is bad, or behind which an end is shut."""
    checking = Checking(game)
    if checking.wrong(play) is not None:
        raise BadNumber("play")
    if not fits_plain(game.arena, book):
        raise OtherShape()
    if game.nevers[0]:
        return ("never", (), None)
    return Beating(game, play, book, checking).found()


def lasts(game, cycles):
    """True if (0,) is left when round 0 and so many rounds by rows alone have thrown out."""
    if not is_whole(cycles, 0, None):
        raise BadNumber("cycles")
    reached = Reached(game.arena)
    last = rounds_of(Field(game, reached.lots, reached.steps), False)[0]
    return last is None or last > cycles
