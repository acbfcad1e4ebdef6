"""Drums, plays and the widest guard."""

import unittest

from guardrungs.arenas import Arena, Game
from guardrungs.drums import Drummed, drum_of, is_drum
from guardrungs.errors import BadLot, BadNumber, BadRow, HasGuard, NoGuard, OtherShape, TooMany
from guardrungs.freest import Freest
from guardrungs.freestplain import Widest, pair_open, widest_row
from guardrungs.known import known
from guardrungs.loops import is_guard, judge
from guardrungs.machines import Machine
from guardrungs.plants import Plant
from guardrungs.plays import beaten, is_play, lasts, play_of, reason_wrong
from guardrungs.tables import Table
from guardrungs.wishes import Wish
from tests.checks import NO_BITS, NO_NUMBERS, NO_ROWS, Case, is_tuples
from tests.test_loops import follow_run, some_book
from tests.test_tables import DOOR, games, key, line, two_lines, wrong_lots


DEEP = {"machines": 1, "size": 5, "arrows": 12, "changes": 4}


def guarded(number, many, **more):
    for chance, game, plain in games(number, many, **more):
        table = Table(game)
        if table.guards:
            yield chance, game, plain, table


class TestDrums(Case):
    def plain_is_drum(self, plain, table, rows):
        """By the words of [128]: all calm runs of the freest guard from each pair, cycle by cycle."""
        if not rows:
            return False
        left = {frozenset(lot) for lot in table.lots}
        for lot in left:
            for p in lot:
                for ends in plain.ends:
                    now = {(lot, p)}
                    came = ends[p]
                    for row in rows:
                        following = set()
                        for one, q in now:
                            may = plain.let(left, one)
                            r = plain.arena.rows.index(row if row in may else may[0])
                            behind = plain.behind(one, r)
                            following |= {(behind[x], s) for x, s in plain.arena.table[q][r] if plain.arena.calm(q, s)}
                        now = following
                        came = came or any(ends[q] for _, q in now)
                    if not came:
                        return False
        return True

    def test_drum_of(self):
        lengths = {}
        for _, game, plain, table in guarded(151, 400, **DEEP):
            drum = drum_of(table)
            self.assertIs(type(drum), tuple)
            self.assertTrue(is_tuples(drum))
            many = sum(len(lot) for lot in table.lots)
            self.assertTrue(1 <= len(drum) <= max(1, len(game.wish.ends) * many * (many - 1)))
            self.assertLessEqual(set(drum), set(game.arena.rows))
            self.assertTrue(self.plain_is_drum(plain, table, drum))
            self.told(True, is_drum, table, drum)
            lengths[len(drum)] = lengths.get(len(drum), 0) + 1
            for begin in range(len(drum)):
                self.assertEqual(judge(game, Drummed(table, drum, begin=begin)), ("good", (), None))
        self.assertGreater(sum(lengths.values()), 50)

    def test_is_drum(self):
        met = {True: 0, False: 0}
        for chance, game, plain, table in guarded(152, 200):
            for length in (0, 1, 1, 2, 4):
                rows = [list(row) for row in chance.readings(game.arena.plant.outputs, length)]
                wanted = self.plain_is_drum(plain, table, [tuple(row) for row in rows])
                self.told(wanted, is_drum, table, rows)
                met[wanted] += len(game.wish.ends) > 0
        self.assertGreater(min(met.values()), 30)

    def test_long(self):
        # A far end of a ring, to which each pair needs many asks.
        ring = Plant(((20, tuple((s, "on", (s + 1) % 20) for s in range(20))),), 1, (("level", 0, (3, 4)),),
                     drivers=(("on", 0, 1),))
        game = Game(Arena(ring, 1, 1), Wish((), ((((0, 19),),), (((0, 7),),))))
        table = Table(game)
        drum = drum_of(table)
        self.assertTrue(is_drum(table, drum))
        self.assertGreaterEqual(len(drum), 19)
        self.assertTrue(is_guard(game, Drummed(table, drum, begin=5)))
        self.assertFalse(is_drum(table, drum[:3]))

    def test_limit(self):
        def table(many):
            return Table(Game(Arena(line(many), 1, 1), Wish((), ((((0, 5),),),))))
        self.assertTrue(is_drum(table(400), drum_of(table(400))))
        self.refused(TooMany, {"limit": 400}, drum_of, table(401))
        self.told(True, is_drum, table(401), [()] * 401)
        self.told(False, is_drum, table(401), [()] * 300)

    def test_no_guard(self):
        none = Table(Game(Arena(line(600), 1, 1), Wish(((),), ())))
        self.refused(NoGuard, {}, drum_of, none)
        self.refused(NoGuard, {}, Drummed, none, None, begin=-1)
        self.told(False, is_drum, none, [()])
        self.refused(BadRow, {"place": -1}, is_drum, none, [(0,)])
        for call in (Freest, Widest, pair_open):
            self.refused(NoGuard, {}, call, none)

    def test_wrong(self):
        table = Table(Game(Arena(DOOR, 0, 1), Wish((), ())))
        for call in (is_drum, Drummed):
            for wrong in NO_ROWS:
                self.refused(BadRow, {"place": -1}, call, table, wrong)
            for wrong in NO_ROWS + [(), (0, 1)]:
                self.refused(BadRow, {"place": -1}, call, table, [(0,), wrong, (2,)])
            for wrong in NO_BITS:
                self.refused(BadRow, {"place": 0}, call, table, ((0,), (wrong,)))
        self.refused(BadNumber, {"word": "rows"}, Drummed, table, [], begin=-1)
        for wrong in NO_NUMBERS + [-1, 2]:
            self.refused(BadNumber, {"word": "begin"}, Drummed, table, [(0,), (1,)], begin=wrong)
        self.told((0, 0), lambda: Drummed(table, [[0], [1]]).run_from((-1, -1, 1), [(1,)])[1][2:] + (0,))

    def test_drummed(self):
        for chance, game, _, table in guarded(153, 150):
            inputs = len(game.arena.plant.inputs)
            rows = chance.readings(game.arena.plant.outputs, chance.random.randint(1, 4))
            begin = chance.random.randrange(len(rows))
            book = Drummed(table, [list(row) for row in rows], begin=begin)
            freest = Freest(table)
            self.assertEqual(book.inputs, freest.inputs[:inputs])
            self.assertEqual((book.outputs, book.start()), (freest.outputs, (-1, -1, begin)))
            readings = chance.readings(inputs, 15)
            readings = (game.arena.first,) * (chance.random.random() < 0.7) + readings
            asked = [x + rows[(begin + at) % len(rows)] for at, x in enumerate(readings)]
            self.told(freest.run(asked), book.run, readings)
            end = freest.run_from(freest.start(), asked)[1] + ((begin + len(readings)) % len(rows),)
            self.assertEqual(book.run_from(book.start(), readings)[1], end)
        for wrong in NO_ROWS + [(0, 0)]:
            door = Drummed(Table(Game(Arena(DOOR, 0, 1), Wish((), ()))), [(0,)])
            self.refused(BadRow, {"place": -1}, door.step, door.start(), wrong)


class TestPlays(Case):
    def plain_wrong(self, game, plain, play):
        """By the words of [129]."""
        ahead = []
        reached = plain.reached()
        for place, entry in enumerate(play):
            lot, word, data = frozenset(entry[0]), entry[1], entry[2]
            if lot not in reached or key(lot) != entry[0] or lot in ahead:
                return place
            if not self.is_right(game, plain, lot, word, data, ahead):
                return place
            ahead.append(lot)
        return None if ahead and ahead[-1] == frozenset([0]) else len(play)

    def is_right(self, game, plain, lot, word, data, ahead):
        if word == "never":
            return data in lot and plain.never[data]
        if word == "rows":
            if len(data) != len(plain.arena.rows):
                return False
            for r, (kind, what) in enumerate(data):
                if kind == "bad" and not (what in lot and plain.bad[what][r]):
                    return False
                if kind == "reading" and plain.behind(lot, r).get(what) not in ahead:
                    return False
            return True
        p, j = data
        if p not in lot or j >= len(plain.ends) or plain.ends[j][p]:
            return False
        met, left = {(lot, p)}, [(lot, p)]
        while left:
            one, q = left.pop()
            for r in range(len(plain.arena.rows)):
                behind = plain.behind(one, r)
                if any(plain.bad[s][r] for s in one) or any(other in ahead for other in behind.values()):
                    continue
                for x, s in plain.arena.table[q][r]:
                    if plain.arena.calm(q, s) and (behind[x], s) not in met:
                        if plain.ends[j][s]:
                            return False
                        met.add((behind[x], s))
                        left.append((behind[x], s))
        return True

    def test_plays(self):
        words, sizes = {}, {}
        for _, game, plain in games(154, 300):
            left, gone = plain.rounds()
            if frozenset([0]) in left:
                self.refused(HasGuard, {}, play_of, game)
                continue
            play = play_of(game)
            self.assertTrue(is_tuples(play))
            self.assertIsNone(self.plain_wrong(game, plain, play))
            self.told(True, is_play, game, play)
            self.told(None, reason_wrong, game, list(play))
            rounds = [gone[frozenset(entry[0])] for entry in play]
            self.assertEqual(rounds, sorted(rounds))
            for (lot, word, data), number in zip(play, rounds):
                self.assertIs(word == "never", number == 0)
                if word == "rows":
                    for r, (kind, what) in enumerate(data):
                        if kind == "reading":
                            self.assertLess(gone[plain.behind(lot, r)[what]], number)
                words[word] = words.get(word, 0) + 1
            sizes[len(play)] = sizes.get(len(play), 0) + 1
        self.assertEqual(set(words), {"never", "rows", "shut"})
        self.assertGreater(min(words.values()), 10)
        self.assertGreater(len(sizes), 4)

    def test_changed_plays(self):
        met = {}
        for chance, game, plain in games(155, 250):
            if Table(game).guards:
                continue
            play = list(play_of(game))
            for _ in range(8):
                other = list(play)
                at = chance.random.randrange(len(other))
                kind = chance.random.randrange(6)
                lot, word, data = other[at]
                if kind == 0:
                    del other[at]
                elif kind == 1:
                    to = chance.random.randrange(len(other))
                    other[at], other[to] = other[to], other[at]
                elif kind == 2:
                    other.append(other[at])
                elif kind == 3:
                    other[at] = (chance.pick(play)[0], word, data)
                elif kind == 4:
                    other[at] = (lot,) + chance.pick(play)[1:]
                else:
                    p = chance.random.randrange(len(game.arena))
                    j = chance.random.randrange(len(game.wish.ends) + 1)
                    other[at] = (lot,) + chance.pick([("never", p), ("shut", (p, j)),
                                                      ("rows", (("bad", p),) * len(game.arena.rows))])
                wanted = self.plain_wrong(game, plain, other)
                self.told(wanted, reason_wrong, game, tuple(other))
                self.told(wanted is None, is_play, game, other)
                met[wanted is None] = met.get(wanted is None, 0) + 1
        self.assertGreater(min(met.values()), 50)

    def test_forms(self):
        plant = Plant(((3, ((0, "up", 1), (0, "off", 2))),), 1, (), drivers=(("up", 0, 1), ("off", 0, 0)))
        game = Game(Arena(plant, 0, 1), Wish((((0, 1),), ((0, 2),)), ((((0, 2),),),)))
        good = ((0,), "rows", (("bad", 0), ("bad", 0)))
        never = ((0, 1), "never", 1)
        self.told(None, reason_wrong, game, (good,))
        self.told(None, reason_wrong, game, [never, good])
        for wrong in (None, 3, "ab", {0: good}):
            self.told(0, reason_wrong, game, wrong)
            self.told(False, is_play, game, wrong)
        self.told(0, reason_wrong, game, ())
        self.told(1, reason_wrong, game, (never,))
        self.told(2, reason_wrong, game, (good, never))
        cases = [None, (), list(good), good[:2], good + (0,), ([0],) + good[1:], ((0.0,),) + good[1:],
                 ((False,),) + good[1:], ((),) + good[1:], ((5,),) + good[1:], ((1,),) + good[1:], (None,) + good[1:],
                 ((0,), "Rows", good[2]), ((0,), None, good[2]), ((0,), ["rows"], good[2]), ((0,), "rows", None),
                 ((0,), "rows", list(good[2])), ((0,), "rows", good[2][:1]), ((0,), "rows", good[2] + good[2][:1]),
                 ((0,), "rows", (("bad", 0), ["bad", 0])), ((0,), "rows", (("bad", 0), ("bad", 1))),
                 ((0,), "rows", (("bad", 0), ("bad", False))), ((0,), "rows", (("bad", 0), ("bad",))),
                 ((0,), "rows", (("bad", 0), ("Bad", 0))), ((0,), "rows", (("bad", 0), None)),
                 ((0,), "rows", (("bad", 0), ("reading", (0,)))), ((0,), "rows", (("bad", 0), ("reading", None))),
                 ((0,), "rows", (("bad", 0), ("reading", 0))), ((0,), "rows", (("bad", 0), ("reading", []))),
                 ((0,), "never", 0), ((0,), "never", None), ((0,), "never", False), ((0,), "never", (0,)),
                 ((0,), "shut", None), ((0,), "shut", (0,)), ((0,), "shut", (0, 1)), ((0,), "shut", [0, 0]),
                 ((0,), "shut", (1, 0)), ((0,), "shut", (False, 0)), ((0,), "shut", (0, False)),
                 ((0,), "shut", (0, None)), ((0,), "shut", (0, 0, 0)), ((0,), "shut", (0, -1)),
                 ((1, 0), "never", 1), ((0, 1), "never", True), ((0, 1), "never", 2), ((0, 0), "never", 0)]
        for wrong in cases:
            with self.subTest(wrong=wrong):
                self.told(1, reason_wrong, game, (((0, 2), "never", 2), wrong, None))
        # All rows are bad at (0,), so no run leads to the end.
        self.told(None, reason_wrong, game, (((0,), "shut", (0, 0)),))
        # A reason by a reading: the lot behind must be that of an entry ahead.
        stay = Game(Arena(plant, 0, 1), Wish((((0, 1),),), ()))
        self.refused(HasGuard, {}, play_of, stay)
        self.told(0, reason_wrong, stay, (((0,), "rows", (("reading", ()), ("bad", 0))),))

    def test_beaten(self):
        met = {}
        for chance, game, plain in games(156, 300):
            if Table(game).guards:
                continue
            play = play_of(game)
            for _ in range(4):
                book = some_book(chance, game.arena, False)
                told = beaten(game, chance.pick([play, list(play)]), book)
                self.assertTrue(is_tuples(told))
                word, run, last = told
                reading, p, standing = follow_run(self, game.arena, book, False, run)
                if word == "never":
                    self.assertEqual(told, ("never", (), None))
                    self.assertTrue(plain.never[0])
                elif word == "bad":
                    self.assertEqual(book.step(standing, reading)[0], last)
                    self.assertTrue(game.bad(p, last))
                else:
                    self.assertEqual(word, "shut")
                    self.assertFalse(self.comes_to(game, book, (reading, p, standing), last))
                self.assertIs(is_guard(game, book), False)
                met[word] = met.get(word, 0) + 1
        self.assertEqual(set(met), {"never", "bad", "shut"})
        self.assertGreater(min(met.values()), 20)

    def comes_to(self, game, book, place, end):
        """True if calm moves, the book answering, lead from the place to the end."""
        met, left = {place}, [place]
        while left:
            reading, p, standing = left.pop()
            if game.is_end(p, end):
                return True
            answer, behind = book.step(standing, reading)
            for x, q in game.arena.moves(p, answer):
                if game.arena.calm(p, q) and (x, q, behind) not in met:
                    met.add((x, q, behind))
                    left.append((x, q, behind))
        return False

    def test_a_play_against_a_slow_book(self):
        # The end stays in reach till the book shuts it behind many readings; the play waits for it.
        plant = Plant(((3, ((0, "go", 1), (0, "fail", 2))), (1, ((0, "tick", 0),))), 1, (("mark", ("tick",)),),
                      drivers=(("go", 0, 1), ("fail", 0, 1)))
        game = Game(Arena(plant, 0, 1), Wish((((0, 2),),), ((((0, 1),),),)))
        play = play_of(game)
        for many in (1, 2, 40):
            book = Machine.of_rows(1, 1, [[((1 if s == many - 1 else 0,), (s + 1) % many)] * 2 for s in range(many)])
            word, run, last = beaten(game, play, book)
            self.assertEqual((word, len(run), last), ("bad", many - 1, (1,)))
        still = Machine.of_rows(1, 1, [[((0,), 0)] * 2])
        self.assertEqual(beaten(game, play, still), ("shut", (), 0))

    def test_beaten_wrong(self):
        plant = Plant(((3, ((0, "up", 1), (0, "off", 2))),), 1, (), drivers=(("up", 0, 1), ("off", 0, 0)))
        game = Game(Arena(plant, 0, 1), Wish((((0, 1),), ((0, 2),)), ()))
        play = (((0,), "rows", (("bad", 0), ("bad", 0))),)
        asked = Machine.of_rows(1, 1, [[((0,), 0)] * 2])
        for wrong in (None, (), play[::-1] + play, [None]):
            self.refused(BadNumber, {"word": "play"}, beaten, game, wrong, asked)
        self.refused(OtherShape, {}, beaten, game, play, asked)
        never = Game(game.arena, Wish(((),), ()))
        self.refused(OtherShape, {}, beaten, never, (((0,), "never", 0),), asked)
        book = Machine.of_rows(0, 1, [[((0,), 0)]])
        self.told(("never", (), None), beaten, never, [((0,), "never", 0)], book)

    def test_limits(self):
        many = Game(Arena(two_lines(), 1, 1), Wish((), ()))
        book = Machine.of_rows(0, 2, [[((0, 0), 0)]])
        self.refused(TooMany, {"limit": 600}, play_of, many)
        self.refused(TooMany, {"limit": 600}, is_play, many, None)
        self.refused(TooMany, {"limit": 600}, reason_wrong, many, ())
        self.refused(TooMany, {"limit": 600}, beaten, many, None, None)
        self.refused(TooMany, {"limit": 600}, lasts, many, 0)
        for wrong in NO_NUMBERS + [-1]:
            self.refused(BadNumber, {"word": "cycles"}, lasts, many, wrong)
        self.refused(TooMany, {"limit": 600}, lasts, Game(many.arena, Wish(((),), ())), 3)
        self.assertEqual(book.outputs, ("o0", "o1"))

    def test_lasts(self):
        met = {True: 0, False: 0}
        for _, game, plain in games(157, 200):
            left, gone = plain.rounds(by_ends=False)
            last = gone.get(frozenset([0]))
            for cycles in (0, 1, 2, 3, 10 ** 9):
                wanted = last is None or last > cycles
                self.told(wanted, lasts, game, cycles)
                met[wanted] += 1
                if not game.wish.ends and cycles < 3:
                    self.assertIs(self.some_lasts(plain, frozenset([0]), cycles), wanted)
        self.assertGreater(min(met.values()), 50)
        falls = Plant(((9, tuple((s, "on", s + 1) for s in range(8))),), 0, ())
        game = Game(Arena(falls, 1, 1), Wish((((0, 8),),), ()))
        self.assertEqual([lasts(game, n) for n in range(10)], [True] * 8 + [False] * 2)

    def some_lasts(self, plain, lot, cycles):
        """True if a guard can answer so many times from this known lot on without a bad answer."""
        if any(plain.never[p] for p in lot):
            return False
        if cycles == 0:
            return True
        for r in range(len(plain.arena.rows)):
            if not any(plain.bad[p][r] for p in lot):
                if all(self.some_lasts(plain, behind, cycles - 1) for behind in plain.behind(lot, r).values()):
                    return True
        return False


class TestWidest(Case):
    def plain_widest(self, plain, left, lot):
        may = [plain.arena.rows.index(row) for row in plain.let(left, lot)]
        for y in may:
            if all(set(plain.arena.table[p][z]) <= set(plain.arena.table[p][y]) for p in lot for z in may):
                return y
        return None

    def plain_open(self, plain, left):
        pairs = [(frozenset([0]), frozenset([0]))]
        for one, two in pairs:
            y = self.plain_widest(plain, left, one)
            may = [plain.arena.rows.index(row) for row in plain.let(left, two)]
            if y is None:
                return (key(one), key(two))
            for z in may:
                if not all(set(plain.arena.table[p][z]) <= set(plain.arena.table[p][y]) for p in two):
                    return (key(one), key(two))
            for z in may:
                for x, behind in plain.behind(two, z).items():
                    pair = (plain.behind(one, y)[x], behind)
                    if pair not in pairs:
                        pairs.append(pair)
        return None

    def test_widest(self):
        met = {"open": 0, "late": 0, "none": 0, "row": 0, "closed": 0}
        for chance, game, plain, table in list(guarded(158, 400)) + list(guarded(151, 400, **DEEP)):
            left = {frozenset(lot) for lot in table.lots}
            for lot in plain.reached():
                y = self.plain_widest(plain, left, lot) if lot in left else None
                self.told(None if y is None else game.arena.rows[y], widest_row, table, list(key(lot)))
                met["none" if y is None else "row"] += 1
            wanted = self.plain_open(plain, left)
            self.told(wanted, pair_open, table)
            if wanted is not None:
                met["open"] += 1
                met["late"] += wanted != ((0,), (0,))
                self.refused(OtherShape, {}, Widest, table)
                continue
            met["closed"] += 1
            book = Widest(table)
            self.assertEqual(judge(game, book), ("good", (), None))
            self.assertEqual(book.inputs, Drummed(table, [(0,) * game.arena.plant.outputs]).inputs)
            self.assertEqual((book.outputs, book.start()), (Freest(table).outputs, (-1, -1)))
            self.walk(chance, game, plain, table, book, left)
        self.assertGreater(min(met.values()), 0)

    def walk(self, chance, game, plain, table, book, left):
        """It writes the widest row of the known lot, and what it must at readings that cannot be."""
        arena = game.arena
        standing, lot, last = book.start(), None, None
        for _ in range(20):
            behinds = {arena.first: frozenset([0])} if lot is None else plain.behind(lot, last)
            reading = chance.reading(len(arena.plant.inputs))
            if chance.random.random() < 0.7:
                reading = chance.pick(behinds)
            answer, behind = book.step(standing, reading)
            if reading in behinds:
                lot = behinds[reading]
                last = self.plain_widest(plain, left, lot)
                standing = (table.lots.index(key(lot)), last)
            written = self.plain_widest(plain, left, frozenset([0])) if lot is None else last
            self.assertEqual((answer, behind), (arena.rows[written], standing))

    def test_it_has_all_runs_of_good_guards(self):
        tried = 0
        for chance, game, _, table in guarded(159, 200):
            if pair_open(table) is not None:
                continue
            widest = Widest(table)
            rows = chance.readings(game.arena.plant.outputs, 3)
            other = Drummed(table, rows)
            if not is_guard(game, other):
                continue
            tried += 1
            for _ in range(5):
                readings, written = [game.arena.first], []
                now, lasts_at = 0, other.start()
                own = widest.start()
                for _ in range(8):
                    answer, lasts_at = other.step(lasts_at, readings[-1])
                    wide, own = widest.step(own, readings[-1])
                    move = chance.pick(game.arena.moves(now, answer))
                    self.assertIn(move, game.arena.moves(now, wide))
                    written.append(wide)
                    readings.append(move[0])
                    now = move[1]
                    self.assertIn(now, known(game.arena, readings, written))
        self.assertGreater(tried, 20)

    def test_no_pair_fails_where_single_changes_are_let_in(self):
        # [132]: the falling (0, 1), each driver with the bit 1, all lots of one standing.
        tried = 0
        for chance, game, _ in games(160, 500, waits=False, faults=False, machines=1, inputs=3, drivers=1):
            arena = Arena(game.arena.plant, 0, 1)
            table = Table(Game(arena, game.wish))
            if table.guards and all(len(lot) == 1 for lot in Table(Game(arena, Wish((), ()))).lots):
                self.assertIsNone(pair_open(table))
                tried += 1
        self.assertGreater(tried, 10)

    def test_wrong(self):
        table = Table(Game(Arena(DOOR, 0, 1), Wish((), ())))
        for wrong, place in wrong_lots(table.game.arena):
            self.refused(BadLot, {"place": place}, widest_row, table, wrong)
        self.told(None, widest_row, table, (0, 1))
        book = Widest(table)
        for wrong in NO_ROWS + [(), (0, 1)]:
            self.refused(BadRow, {"place": -1}, book.step, book.start(), wrong)


if __name__ == "__main__":
    unittest.main()
