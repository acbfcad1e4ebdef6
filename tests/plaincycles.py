"""A second reading of the rules of charts, cut lots, double places, alarms and tasks, word by word."""

from guardrungs.arenas import Arena, Game
from guardrungs.errors import TooMany
from guardrungs.plants import Plant
from guardrungs.wishes import Wish
from tests.plain import rows
from tests.plainplants import ArenaChance, PlainArena, PlainGame, is_in, led, possible, reading_of


def lets(plant, chart, q, change):
    """True if the chart lets the change at q."""
    return all(chart[0][q][output] == bit for c, output, bit in plant.drivers if c == change)


def follow(plant, chart, q, change):
    return chart[1][q][plant.changes.index(change)]


def one_by_one(plant, chart):
    """From the places met one by one to the least number of changes that lead there."""
    told = {(plant.origin, 0): 0}
    left = [(plant.origin, 0)]
    for p, q in left:
        for change in possible(plant, p, chart[0][q]):
            place = (led(plant, p, change), follow(plant, chart, q, change))
            if place not in told:
                told[place] = told[p, q] + 1
                left.append(place)
    return told


def reach_one_by_one(plant, chart, place, end):
    met, left = {place}, [place]
    for p, q in left:
        if is_in(end, p):
            return True
        for change in possible(plant, p, chart[0][q]):
            behind = (led(plant, p, change), follow(plant, chart, q, change))
            if behind not in met:
                met.add(behind)
                left.append(behind)
    return False


def kept_one_by_one(plant, wish, chart):
    """The word and the length of its row of changes."""
    if is_in(wish.never, plant.origin):
        return "never", 0
    places = one_by_one(plant, chart)
    bad = [n for (p, _), n in places.items() if is_in(wish.never, p)]
    if bad:
        return "bad", min(bad)
    shut = [n for place, n in places.items()
            if not all(reach_one_by_one(plant, chart, place, end) for end in wish.ends)]
    return ("shut", min(shut)) if shut else ("good", 0)


def cycle(arena, chart, pair):
    """For a PlainArena and a pair (p, q): the pairs (reading, (p, q)) behind it, and whether what is not let can come.

    All triples (changes that came, plant standing, chart's standing) of falling rows are gone through.
    """
    plant, (p, q) = arena.plant, pair
    row = chart[0][q]
    now = {(frozenset(), arena.standings[p][0], q)}
    ended, met, unlet, length = set(), set(), False, 0
    while True:
        ended |= {one for one in now if length >= arena.least or not possible(plant, one[1], row)}
        if length == arena.most or (length >= arena.least and now <= met):
            break
        if length >= arena.least:
            met |= now
        behind = set()
        for come, s, r in now:
            for change in possible(plant, s, row):
                unlet = unlet or not lets(plant, chart, r, change)
                behind.add((come | {change}, led(plant, s, change), follow(plant, chart, r, change)))
        now = behind
        length += 1
    told = set()
    for come, s, r in ended:
        pairs, _ = arena.behind(arena.standings[p], reading_of(plant, s, come), s)
        told |= {(reading, (arena.standings.index(whole), r)) for reading, whole in pairs}
    return told, unlet


def cut_lots(arena, chart):
    """The cut lots as met, as tuples, with the numbers behind them by reading; and the word and the steps of its run."""
    lots, steps, depths = [((0, 0),)], [], [0]
    at = 0
    found = None
    while at < len(lots):
        rows_told = {chart[0][q] for _, q in lots[at]}
        moves = [cycle(arena, chart, pair) for pair in lots[at]]
        if len(rows_told) > 1 or any(unlet for _, unlet in moves):
            found = (len(rows_told) > 1, any(unlet for _, unlet in moves), depths[at])
            break
        behind = {}
        for told, _ in moves:
            for reading, pair in told:
                behind.setdefault(reading, set()).add(pair)
        step = {}
        for reading in sorted(behind):
            lot = tuple(sorted(behind[reading]))
            if lot not in lots:
                lots.append(lot)
                depths.append(depths[at] + 1)
            step[reading] = lots.index(lot)
        steps.append(step)
        at += 1
    return lots, steps, found


def rest(plant, wish):
    """From each standing of the rest to the rows that are let there."""
    left = [()]
    for size, _ in plant.machines:
        left = [p + (s,) for p in left for s in range(size)]
    left = {p for p in left if not is_in(wish.never, p)}
    while True:
        let = {p: [y for y in rows(plant.outputs) if all(led(plant, p, c) in left for c in possible(plant, p, y))]
               for p in left}
        kept = {p for p in left if let[p]}
        for end in wish.ends:
            good = {p for p in left if is_in(end, p)}
            while True:
                more = {p for p in left - good for y in let[p] for c in possible(plant, p, y)
                        if led(plant, p, c) in good}
                if not more:
                    break
                good |= more
            kept &= good
        if kept == left:
            return let
        left = kept


def doubles(game_arena, book):
    """All double places around a plain book by all runs, and what each leads to; game_arena is a PlainArena."""
    sound = [not any(standing[2]) for standing in game_arena.standings]
    start = (game_arena.first, 0, 0, book.start())
    follows = {}
    left = [start]
    for reading, p, q, standing in left:
        answer, behind = book.step(standing, reading)
        row = game_arena.rows.index(answer)
        told = {(x, a, b, behind) for x, a in game_arena.table[p][row] for y, b in game_arena.table[q][row]
                if x == y and sound[b]}
        follows[reading, p, q, standing] = told
        left.extend(sorted(one for one in told if one not in left))
    return follows, sound


def free_doubles(arena):
    sound = [not any(standing[2]) for standing in arena.standings]
    follows, left = {}, [(0, 0)]
    for p, q in left:
        told = set()
        for row in range(len(arena.rows)):
            told |= {(a, b) for x, a in arena.table[p][row] for y, b in arena.table[q][row] if x == y and sound[b]}
        follows[p, q] = told
        left.extend(sorted(one for one in told if one not in left))
    return follows, sound


def longest_row(follows, counts):
    """The number of places that count in the longest row of them; None if there are ever longer ones."""
    told = {place: 1 for place in follows if counts(place)}
    for _ in range(len(told) + 1):
        more = {place: 1 + max([told[one] for one in follows[place] if one in told], default=0) for place in told}
        if more == told:
            return max(told.values(), default=0)
        told = more
    return None


class CycleChance(ArenaChance):
    """Charts, and plants that move much."""

    def chart(self, plant, standings=3):
        """Any chart."""
        many = self.random.randint(1, standings)
        return (tuple(self.reading(plant.outputs) for _ in range(many)),
                tuple(tuple(self.random.randrange(many) for _ in plant.changes) for _ in range(many)))

    def lively(self, machines=1, size=3, changes=3, outputs=1, inputs=2, most_standings=14, faults=0.3, waits=0.3,
               bit=None, driven=0.6, fallings=((0, 1), (0, 2), (1, 1), (0, None), (1, 2), (2, 2), (0, 3))):
        """An arena beside its plain reading; at most standings most changes have an arrow."""
        while True:
            told = []
            for m in range(machines):
                many = self.random.randint(2, size)
                names = [f"c{k}" for k in range(changes) if k % machines == m or self.random.random() < 0.2]
                told.append((many, tuple((s, name, self.random.randrange(many)) for s in range(many) for name in names
                                         if self.random.random() < 0.6)))
            have = [name for name in (f"c{k}" for k in range(changes)) if any(
                arrow[1] == name for _, arrows in told for arrow in arrows)]
            drivers = [(name, self.random.randrange(outputs), self.random.randint(0, 1) if bit is None else bit)
                       for name in have if outputs and self.random.random() < driven]
            shown = []
            for _ in range(inputs):
                m = self.random.randrange(machines)
                if self.random.random() < 0.7 or not have:
                    shown.append(("level", m, tuple(sorted(self.some(range(told[m][0]), 1, 2)))))
                else:
                    shown.append(("mark", self.some(have, 1, 2)))
            plant = Plant(told, outputs, shown, drivers=drivers)
            told_waits, told_faults, many = (), (), 0
            if self.random.random() < waits:
                told_waits = ((self.lot(plant, 1), self.lot(plant, 0), self.random.randint(1, 3)),)
            if inputs and self.random.random() < faults:
                every = [(k, kind) for k in range(inputs) for kind in ("stuck0", "stuck1", "late")]
                told_faults, many = self.some(every, 1, 2), self.random.randint(1, 2)
            least, most = self.pick(fallings)
            try:
                arena = Arena(plant, least, most, waits=told_waits, faults=told_faults, many=many)
            except TooMany:
                continue
            if 1 < len(arena) <= most_standings:
                return arena, PlainArena(plant, least, most, told_waits, told_faults, many)

    def lively_game(self, ends=2, **more):
        arena, plain = self.lively(**more)
        wish = Wish(self.lot(arena.plant, 0, 1), [self.lot(arena.plant, 1) for _ in range(self.random.randint(0, ends))])
        return Game(arena, wish), PlainGame(plain, wish)
