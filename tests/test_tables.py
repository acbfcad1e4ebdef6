"""Known lots, tables, the freest guard."""

import unittest

from guardrungs.arenas import Arena, Game
from guardrungs.errors import BadLot, BadNumber, BadRow, NoGuard, TooMany
from guardrungs.formsof import chain_of, rungs_of, sheet_of
from guardrungs.freest import Freest, lets, refused_at
from guardrungs.known import after, known, lots_reached, readings_after, single
from guardrungs.loops import is_asked_guard
from guardrungs.machines import machine_of
from guardrungs.plants import Plant
from guardrungs.tables import Table, broken, is_table
from guardrungs.wishes import Wish
from tests.checks import NO_BITS, NO_NUMBERS, NO_ROWS, Case, is_tuples
from tests.plain import rows
from tests.plainplants import ArenaChance, PlainArena, PlainGame

DOOR = Plant(((2, ((0, "a", 1), (1, "b", 0))),), 1, (("level", 0, (1,)),), drivers=(("a", 0, 1),))


def key(lot):
    return tuple(sorted(lot))


def wrong_lots(arena):
    many = len(arena)
    told = [(None, -1), ((), -1), ([], -1), ("01", -1), (0, -1), ({0: 1}, -1), ((many,), 0), ((-1,), 0), ((0, 0), 1),
            ((1, 0), 1), ((0, 1, many), 2), (("0",), 0)]
    return told + [((0, wrong), 1) for wrong in NO_NUMBERS]


def games(number, many, **more):
    chance = ArenaChance(number)
    for _ in range(many):
        told = {"outputs": chance.random.randint(0, 2), "inputs": chance.pick((0, 1, 2, 2, 2)), "most_standings": 10}
        told.update(more)
        game, plain = chance.game(**told)
        yield chance, game, plain


def shift(many):
    """An arena without inputs, of a ring of so many standings: behind each reading one standing more is known."""
    return Plant(((many, tuple((s, "on", min(s + 1, many - 1)) for s in range(many))),), 0, ())


def line(many):
    """All lots of it have one standing; there are as many."""
    return Plant(((many, tuple((s, "on", (s + 1) % many) for s in range(many))),), 0, ())


class TestKnown(Case):
    def test_by_chance(self):
        for chance, game, plain in games(131, 80):
            arena = game.arena
            lots = plain.reached()
            self.told(tuple(key(lot) for lot in lots), lots_reached, arena)
            self.told(all(len(lot) == 1 for lot in lots), single, arena)
            for lot in [key(lot) for lot in lots] + [tuple(sorted(chance.some(range(len(arena)), 1, 5)))]:
                for r, row in enumerate(arena.rows):
                    behind = plain.behind(lot, r)
                    self.told(tuple(behind), readings_after, arena, list(lot), list(row))
                    for reading in rows(len(arena.plant.inputs)):
                        wanted = key(behind.get(reading, ()))
                        self.told(wanted, after, arena, list(lot), list(row), list(reading))

    def test_known(self):
        for chance, game, plain in games(132, 80):
            arena = game.arena
            lot, readings, written = frozenset([0]), [arena.first], []
            self.told((0,), known, arena, [list(arena.first)], [])
            for _ in range(8):
                r = chance.random.randrange(len(arena.rows))
                behind = plain.behind(lot, r)
                for other in rows(len(arena.plant.inputs)):
                    wanted = key(behind.get(other, ()))
                    self.told(wanted, known, arena, tuple(readings + [other]), tuple(written + [arena.rows[r]]))
                reading = chance.pick(behind)
                lot = behind[reading]
                readings.append(reading)
                written.append(list(arena.rows[r]))
            for other in rows(len(arena.plant.inputs)):
                if other != arena.first:
                    self.told((), known, arena, [other] + readings[1:], written)
                    self.told((), known, arena, [other], ())

    def test_limits(self):
        self.assertEqual(len(lots_reached(Arena(shift(600), 0, 1))), 600)
        arena = Arena(Plant(((599, tuple((s, "on", min(s + 1, 598)) for s in range(599))), (2, ((0, "b", 1),))), 1, (),
                            drivers=(("b", 0, 1),)), 0, 0)
        self.assertEqual(lots_reached(arena), ((0,),))
        many = Arena(two_lines(), 1, 1)
        self.assertEqual(len(many), 30)
        self.refused(TooMany, {"limit": 600}, lots_reached, many)
        self.assertIs(single(many), False)
        game = Game(many, Wish((), ()))
        self.refused(TooMany, {"limit": 600}, Table, game)
        self.assertEqual(len(lots_reached(Arena(line(600), 1, 1))), 600)
        self.assertIs(single(Arena(line(600), 1, 1)), True)

    def test_wrong(self):
        arena = Arena(DOOR, 0, 1)
        for wrong, place in wrong_lots(arena):
            self.refused(BadLot, {"place": place}, after, arena, wrong, None, None)
            self.refused(BadLot, {"place": place}, readings_after, arena, wrong, None)
        for wrong in NO_ROWS + [(), (0, 1)]:
            self.refused(BadRow, {"place": -1}, after, arena, (0,), wrong, None)
            self.refused(BadRow, {"place": -1}, after, arena, (0,), (0,), wrong)
            self.refused(BadRow, {"place": -1}, readings_after, arena, (0,), wrong)
            self.refused(BadRow, {"place": -1}, known, arena, [(0,), wrong, (2,)], None)
            self.refused(BadRow, {"place": -1}, known, arena, [(0,)], [(0,), wrong, (2,)])
        for wrong in NO_BITS:
            self.refused(BadRow, {"place": 0}, after, arena, (0,), (wrong,), None)
            self.refused(BadRow, {"place": 0}, after, arena, (0,), (0,), (wrong,))
            self.refused(BadRow, {"place": 0}, known, arena, [(0,), (wrong,)], None)
            self.refused(BadRow, {"place": 0}, known, arena, [], [(0,), (wrong,)])
        for wrong in NO_ROWS:
            self.refused(BadRow, {"place": -1}, known, arena, wrong, None)
            self.refused(BadRow, {"place": -1}, known, arena, [], wrong)
        for readings, written in (([], []), ([(0,)], [(0,)]), ([(0,)] * 3, [(0,)]), ([], [(0,)])):
            self.refused(BadNumber, {"word": "rows"}, known, arena, readings, written)


def two_lines():
    """A plant whose lots tell which of many standings may be there: more than 600 of them."""
    arrows = []
    for s in range(30):
        arrows += [(s, "a", (s + 1) % 30), (s, "b", (s * 7 + 3) % 30)]
    return Plant(((30, tuple(arrows)),), 2, (), drivers=(("a", 0, 1), ("b", 1, 1)))


class TestTables(Case):
    def test_by_chance(self):
        met = {"guards": 0, "none": 0, "shut": 0, "late": 0}
        for chance, game, plain in games(133, 250):
            left, gone = plain.rounds()
            table = Table(game)
            self.assertIs(table.game, game)
            self.assertEqual(table.lots, tuple(sorted(key(lot) for lot in left)))
            self.assertTrue(is_tuples(table.lots))
            self.assertIs(table.guards, frozenset([0]) in left)
            self.assertEqual((len(table), list(table)), (len(left), list(table.lots)))
            for lot in plain.reached():
                self.assertIs(key(lot) in table, lot in left)
                self.told(gone.get(lot), table.round_of, list(key(lot)))
                self.told(plain.let(left, lot) if lot in left else (), table.let_at, key(lot))
                self.assertEqual(table[list(key(lot))], table.let_at(key(lot)))
                self.told(plain.let(left, lot), table.holding, list(key(lot)))
            for _ in range(5):
                lot = tuple(sorted(chance.some(range(len(game.arena)), 1, 4)))
                self.told(plain.let(left, lot), table.holding, lot)
                self.told(plain.let(left, lot) if frozenset(lot) in left else (), table.let_at, lot)
                if frozenset(lot) not in left and frozenset(lot) not in gone:
                    self.refused(BadLot, {"place": -1}, table.round_of, lot)
                    self.refused(BadLot, {"place": -1}, table.path, lot, lot[0], 0)
                # A lot reached all of whose standings are in a lot of the table is in it, and its rows, too.
                for big in left:
                    if frozenset(lot) <= big and (frozenset(lot) in left or frozenset(lot) in gone):
                        self.assertIn(frozenset(lot), left)
                        self.assertLessEqual(set(table[key(big)]), set(table[lot]))
            met["guards" if table.guards else "none"] += 1
            met["shut"] += any(word == "end" for word, _ in plain.breaks(set(plain.reached())).values())
            met["late"] += max(gone.values(), default=0) > 1
        self.assertGreater(min(met.values()), 5)

    def test_paths(self):
        lengths = {}
        ring = Plant(line(6).machines, 0, (("level", 0, (2, 3)),))
        told = [(game, plain) for _, game, plain in games(134, 150)]
        for falling in ((0, 1), (1, 1), (2, 2), (0, None)):
            wish = Wish((), ((((0, 5),),), (((0, 2),), ((0, 4),))))
            told.append((Game(Arena(ring, *falling), wish), PlainGame(PlainArena(ring, *falling), wish)))
        for game, plain in told:
            table = Table(game)
            left = {frozenset(lot) for lot in table.lots}
            for lot in table.lots:
                for p in lot:
                    for j in range(len(game.wish.ends)):
                        path = table.path(list(lot), p, j)
                        self.assertTrue(is_tuples(path))
                        now, q = frozenset(lot), p
                        for row, reading, behind in path:
                            r = game.arena.rows.index(row)
                            self.assertTrue(plain.holds(r, now, left))
                            self.assertIn((reading, behind), game.arena.moves(q, row))
                            self.assertTrue(game.arena.calm(q, behind))
                            now, q = plain.behind(now, r)[reading], behind
                        self.assertTrue(game.is_end(q, j))
                        self.assertEqual(len(path), self.shortest(plain, left, frozenset(lot), p, j))
                        lengths[len(path)] = lengths.get(len(path), 0) + 1
        self.assertGreater(len(lengths), 2)

    def shortest(self, plain, left, lot, p, j):
        """By layers of pairs of lot and standing."""
        now, met, many = {(lot, p)}, {(lot, p)}, 0
        while not any(plain.ends[j][q] for _, q in now):
            following = set()
            for one, q in now:
                for r in range(len(plain.arena.rows)):
                    if plain.holds(r, one, left):
                        behind = plain.behind(one, r)
                        following |= {(behind[x], s) for x, s in plain.arena.table[q][r] if plain.arena.calm(q, s)}
            now = following - met
            met |= now
            many += 1
        return many

    def test_broken(self):
        met = {}
        for chance, game, plain in games(135, 150):
            table = Table(game)
            self.told(None, broken, game, table.lots)
            self.told(True, is_table, game, list(table.lots))
            self.told(None, broken, game, [])
            self.told(True, is_table, game, ())
            reached = [key(lot) for lot in plain.reached()]
            for _ in range(6):
                lots = list(chance.some(reached, 1, len(reached)))
                lots += [tuple(sorted(chance.some(range(len(game.arena)), 1, 3)))
                         for _ in range(chance.random.randint(0, 2))]
                lots += chance.some(lots, 0, 2)
                wrong = plain.breaks({frozenset(lot) for lot in lots})
                first = [lot for lot in lots if frozenset(lot) in wrong][:1]
                wanted = None if not first else (first[0],) + wrong[frozenset(first[0])]
                self.told(wanted, broken, game, [list(lot) for lot in lots])
                self.told(wanted is None, is_table, game, tuple(lots))
                word = wanted if wanted is None else wanted[1]
                met[word] = met.get(word, 0) + 1
        self.assertEqual(set(met), {None, "never", "rows", "end"})
        self.assertGreater(min(met.values()), 10)

    def test_ends(self):
        # An end of no patterns is never there; one of the pattern () always.
        for ends, guards in (((), True), (((),), False), ((((),),), True), ((((),), ()), False)):
            game = Game(Arena(DOOR, 0, 1), Wish((), ends))
            self.assertIs(Table(game).guards, guards)
        self.assertIs(Table(Game(Arena(DOOR, 0, 1), Wish(((),), ()))).guards, False)
        never = Table(Game(Arena(DOOR, 0, 1), Wish(((),), ())))
        self.assertEqual((never.lots, len(never), list(never), never.round_of((0,))), ((), 0, [], 0))

    def test_wrong(self):
        game = Game(Arena(DOOR, 0, 1), Wish((), ((((0, 1),),),)))
        table = Table(game)
        for wrong, place in wrong_lots(game.arena):
            for call in (table.let_at, table.holding, table.round_of, table.__getitem__, table.__contains__):
                self.refused(BadLot, {"place": place}, call, wrong)
            self.refused(BadLot, {"place": place}, table.path, wrong, -1, -1)
            for call in (broken, is_table):
                self.refused(BadLot, {"place": place}, call, game, [(0,), wrong, None])
        self.refused(BadLot, {"place": -1}, table.path, (0, 1), -1, -1)
        for wrong in NO_NUMBERS + [-1, 1]:
            self.refused(BadNumber, {"word": "p"}, table.path, (0,), wrong, -1)
            self.refused(BadNumber, {"word": "end"}, table.path, (0,), 0, wrong)
        for wrong in (None, 3, "ab", {(0,): 1}):
            self.refused(BadLot, {"place": -1}, broken, game, wrong)
            self.refused(BadLot, {"place": -1}, is_table, game, wrong)

    def test_many_lots(self):
        self.assertEqual(len(Table(Game(Arena(shift(600), 0, 1), Wish((), ())))), 600)
        self.assertEqual(len(Table(Game(Arena(line(600), 1, 1), Wish((), ((((0, 599),),),))))), 600)
        # Thrown out one a round.
        falls = Plant(((600, tuple((s, "on", s + 1) for s in range(599))),), 0, ())
        table = Table(Game(Arena(falls, 1, 1), Wish((((0, 599),),), ())))
        self.assertEqual([table.round_of((p,)) for p in (599, 598, 1, 0)], [0, 1, 598, 599])


class TestFreest(Case):
    def plain_run(self, table, plain, readings, asks):
        """The answers by the words of [127]."""
        left = {frozenset(lot) for lot in table.lots}
        lot, last, told = None, None, []
        for reading, ask in zip(readings, asks):
            if lot is None:
                if reading != plain.arena.first:
                    told.append(plain.let(left, frozenset([0]))[0])
                    continue
                lot = frozenset([0])
            else:
                behind = plain.behind(lot, plain.arena.rows.index(last))
                if reading not in behind:
                    told.append(last)
                    continue
                lot = behind[reading]
            may = plain.let(left, lot)
            last = ask if ask in may else may[0]
            told.append(last)
        return tuple(told)

    def test_by_chance(self):
        many = 0
        for chance, game, plain in games(136, 150):
            table = Table(game)
            if not table.guards:
                self.refused(NoGuard, {}, Freest, table)
                continue
            many += 1
            book = Freest(table)
            inputs, outputs = len(game.arena.plant.inputs), game.arena.plant.outputs
            self.assertEqual(book.inputs, tuple(f"x{k}" for k in range(inputs)) + tuple(f"a{k}" for k in range(outputs)))
            self.assertEqual(book.outputs, tuple(f"y{k}" for k in range(outputs)))
            self.assertEqual((book.start(), book.lot_in(book.start()), book.row_in(book.start())), ((-1, -1), (), ()))
            for _ in range(3):
                readings = list(chance.readings(inputs, 25))
                asks = chance.readings(outputs, 25)
                # Mostly readings that can come.
                standing = book.start()
                for at in range(25):
                    if chance.random.random() < 0.8:
                        if standing[0] < 0:
                            readings[at] = game.arena.first
                        else:
                            lot, row = book.lot_in(standing), book.row_in(standing)
                            readings[at] = chance.pick(readings_after(game.arena, lot, row))
                    answer, standing = book.step(standing, readings[at] + asks[at])
                    if standing[0] >= 0:
                        self.assertEqual(standing, (table.lots.index(book.lot_in(standing)),
                                                    game.arena.rows.index(book.row_in(standing))))
                handed = [x + a for x, a in zip(readings, asks)]
                self.told(self.plain_run(table, plain, readings, asks), book.run, handed)
                one, middle = book.run_from(book.start(), handed[:11])
                self.assertEqual(one + book.run_from(middle, handed[11:])[0], book.run(handed))
            self.assertTrue(is_asked_guard(game, book))
        self.assertGreater(many, 40)

    def test_written_in_all_forms(self):
        tried = 0
        for chance, game, _ in games(137, 200):
            table = Table(game)
            if not table.guards or len(game.arena.plant.inputs) + game.arena.plant.outputs > 3:
                continue
            book = Freest(table)
            machine = machine_of(book)
            if len(machine) > 30:
                continue
            tried += 1
            readings = chance.readings(len(book.inputs), 30)
            for other in (machine, rungs_of(machine), sheet_of(machine), chain_of(machine)):
                self.assertEqual((other.inputs, other.outputs), (book.inputs, book.outputs))
                self.assertEqual(other.run(readings), book.run(readings))
            if tried == 15:
                break
        self.assertEqual(tried, 15)

    def test_let(self):
        met = {}
        for chance, game, plain in games(138, 150):
            table = Table(game)
            left = {frozenset(lot) for lot in table.lots}
            for _ in range(4):
                lot, readings, written, wanted = frozenset([0]), [], [], None
                reading = game.arena.first
                if chance.random.random() < 0.1:
                    reading = chance.reading(len(reading))
                if reading != game.arena.first:
                    lot = None
                for at in range(6):
                    row = chance.pick(game.arena.rows)
                    if chance.random.random() < 0.8 and lot in left:
                        row = chance.pick(plain.let(left, lot))
                    readings.append(reading)
                    written.append(list(row))
                    if wanted is None and (lot not in left or row not in plain.let(left, lot)):
                        wanted = at
                    self.told(wanted, refused_at, table, readings, tuple(written))
                    self.told(wanted is None, lets, table, tuple(readings), written)
                    behind = plain.behind(lot, game.arena.rows.index(row)) if lot else {}
                    reading = chance.pick(behind) if behind else chance.reading(len(reading))
                    if chance.random.random() < 0.1:
                        reading = chance.reading(len(reading))
                    lot = behind.get(reading)
                met[wanted] = met.get(wanted, 0) + 1
                if wanted is None:
                    # What is let is written by the freest guard that is asked just it.
                    asked = [x + tuple(y) for x, y in zip(readings, written)]
                    self.assertEqual(Freest(table).run(asked), tuple(tuple(row) for row in written))
        self.assertGreater(min(met.get(None, 0), met.get(0, 0), met.get(1, 0)), 2)

    def test_wrong(self):
        table = Table(Game(Arena(DOOR, 0, 1), Wish((), ())))
        for call in (lets, refused_at):
            for wrong in NO_ROWS:
                self.refused(BadRow, {"place": -1}, call, table, wrong, None)
                self.refused(BadRow, {"place": -1}, call, table, [(0,), wrong, (2,)], None)
                self.refused(BadRow, {"place": -1}, call, table, [(0,)], wrong)
            for wrong in NO_BITS:
                self.refused(BadRow, {"place": 0}, call, table, [(0,), (wrong,)], None)
                self.refused(BadRow, {"place": 0}, call, table, [(0,)], [(0,), (wrong,)])
            for readings, written in (([], []), ([(0,)], []), ([(0,)], [(0,), (0,)]), ([], [(0,)])):
                self.refused(BadNumber, {"word": "rows"}, call, table, readings, written)
            none = Table(Game(Arena(DOOR, 0, 1), Wish(((),), ())))
            self.refused(BadNumber, {"word": "rows"}, call, none, [], [])
        self.told(0, refused_at, none, [(0,)], [(0,)])
        self.told(False, lets, none, [(0,)], [(0,)])
        for wrong in NO_ROWS + [(0,), (0, 1, 1)]:
            self.refused(BadRow, {"place": -1}, Freest(table).step, (-1, -1), wrong)


if __name__ == "__main__":
    unittest.main()
