"""Arenas, their standings and moves; games."""

import unittest

from guardrungs.arenas import Arena, Game
from guardrungs.errors import BadFalling, BadNumber, BadPlant, BadRow, BadWish, TooMany
from guardrungs.plants import Plant
from guardrungs.wishes import Wish
from tests.checks import NO_BITS, NO_NUMBERS, NO_ROWS, Case, is_tuples
from tests.plain import rows
from tests.plainplants import ArenaChance, PlainArena, PlainGame
from tests.test_wishes import NO_PATTERNS

DOOR = Plant(((2, ((0, "up", 1), (1, "down", 0))),), 0, (("level", 0, (1,)),))


def ring(many, outputs=0):
    return Plant(((many, tuple((s, "on", (s + 1) % many) for s in range(many))),), outputs, ())


class TestArenas(Case):
    def check(self, arena, plain):
        self.assertEqual(arena.standings, tuple(plain.standings))
        self.assertEqual(len(arena), len(plain.standings))
        self.assertEqual((arena.first, arena.rows), (plain.first, tuple(plain.rows)))
        self.assertTrue(is_tuples((arena.standings, arena.rows, arena.waits, arena.faults)))
        for p, told in enumerate(plain.table):
            self.assertEqual(arena.plant_standing(p), plain.standings[p][0])
            self.assertIs(arena.sound(p), not any(plain.standings[p][2]))
            for row, moves in zip(plain.rows, told):
                self.told(tuple(moves), arena.moves, p, list(row))
                self.told(tuple(sorted({reading for reading, _ in moves})), arena.readings_at, p, row)
                self.told(plain.runs_out[p][plain.rows.index(row)], arena.overdue, p, row)
                self.assertGreater(len(moves), 0)
            for q in range(len(arena)):
                self.assertIs(arena.calm(p, q), plain.calm(p, q))

    def test_by_chance(self):
        chance = ArenaChance(111)
        met = {"waits": 0, "faults": 0, "late": 0, "over": 0, "large": 0}
        for _ in range(700):
            arena, plain = chance.arena(outputs=chance.random.randint(0, 2), inputs=chance.random.randint(0, 3))
            self.check(arena, plain)
            met["waits"] += len(arena.waits) > 0
            met["faults"] += any(kind for standing in arena.standings for kind in standing[2])
            met["late"] += any("late" in standing[2] for standing in arena.standings)
            met["over"] += any(any(told) for told in plain.runs_out)
            met["large"] += len(arena) > 10
        self.assertGreater(min(met.values()), 10)

    def test_attributes(self):
        waits = [([((0, 1),)], (), 3), (((),), [], 1)]
        faults = [(0, "late"), (0, "stuck1")]
        arena = Arena(DOOR, 0, None, waits=waits, faults=faults, many=2)
        self.assertIs(arena.plant, DOOR)
        self.assertEqual((arena.fewest, arena.most, arena.many), (0, None, 2))
        self.assertEqual(arena.waits, (((((0, 1),),), (), 3), (((),), (), 1)))
        self.assertEqual(arena.faults, tuple(faults))
        waits.append(waits[0])
        waits[0][0].append(())
        faults.append((0, "stuck0"))
        self.assertEqual((len(arena.waits), len(arena.waits[0][0]), len(arena.faults)), (2, 1, 2))
        self.check(arena, PlainArena(DOOR, 0, None, arena.waits, arena.faults, 2))

    def test_waits(self):
        # The wait begins at the first reading, runs out in this cycle or the next ones, or never.
        for n in (1, 2, 8):
            for end in ((), (((0, 1),),), ((),)):
                for least, most in ((0, 1), (1, 1), (0, 0), (0, None)):
                    for begin in (((),), (((0, 0),),), (((0, 1),),), ()):
                        waits = ((begin, end, n),)
                        self.check(Arena(DOOR, least, most, waits=waits), PlainArena(DOOR, least, most, waits))
        still = Arena(DOOR, 0, 0, waits=((((),), (), 2),))
        self.assertEqual([standing[1] for standing in still.standings], [(2,), (1,), (0,)])
        self.assertEqual([still.overdue(p, ()) for p in range(3)], [False, True, False])
        self.assertEqual(still.moves(2, ()), (((0,), 0),))

    def test_faults(self):
        kinds = ("stuck0", "stuck1", "late")
        plant = Plant(((2, ((0, "up", 1), (1, "down", 0))),), 0, (("level", 0, (1,)), ("mark", ("up",))))
        for many in range(4):
            for faults in ((), ((0, "stuck0"),), ((0, "late"), (0, "stuck1")), ((1, "late"), (0, "late")),
                           tuple((k, kind) for k in (0, 1) for kind in kinds)):
                self.check(Arena(plant, 0, 2, faults=faults, many=many), PlainArena(plant, 0, 2, (), faults, many))
        three = Plant(((2, ((0, "up", 1), (1, "down", 0))),), 0, (("level", 0, (1,)),) * 3)
        every = tuple((k, "stuck0") for k in range(3)) + ((1, "late"),)
        for many in range(4):
            self.check(Arena(three, 1, 1, faults=every, many=many), PlainArena(three, 1, 1, (), every, many))

    def test_bare_plants(self):
        bare = Plant(((1, ()),), 0, ())
        arena = Arena(bare, 24, None)
        self.assertEqual((arena.standings, arena.first, arena.rows), ((((0,), (), (), ()),), (), ((),)))
        self.told((((), 0),), arena.moves, 0, ())
        outputs = Plant(((1, ()),), 3, ())
        self.assertEqual(Arena(outputs, 0, 1).rows, tuple(rows(3)))

    def test_limit(self):
        self.assertEqual(len(Arena(ring(600), 0, 1)), 600)
        self.assertEqual(len(Arena(ring(600), 0, None)), 600)
        for falling in ((0, 1), (1, 1), (0, None), (1, None), (2, None), (24, 24)):
            self.refused(TooMany, {"limit": 600}, Arena, ring(601), *falling)
        self.assertEqual(len(Arena(ring(1200), 2, 2)), 600)
        self.assertEqual(len(Arena(ring(601), 0, 0)), 1)
        self.assertEqual(len(Arena(ring(300), 0, 1, waits=(((((0, 0),),), (((0, 1),),), 1),))), 301)
        self.assertEqual(len(Arena(ring(300), 0, 1, waits=((((),), (), 1),))), 600)
        self.refused(TooMany, {"limit": 600}, Arena, ring(301), 0, 1, waits=((((),), (), 1),))
        self.refused(TooMany, {"limit": 600}, Arena, ring(300), 0, 1, waits=((((),), (), 2),))

    def test_what_comes_first(self):
        plant = ring(601)
        self.refused(BadFalling, {}, Arena, plant, 2, 1, waits=None, faults=None, many=-1)
        for wrong in NO_NUMBERS + [-1, 25]:
            self.refused(BadFalling, {}, Arena, plant, wrong, None, waits=None, faults=None, many=-1)
            if wrong is not None:
                self.refused(BadFalling, {}, Arena, plant, 0, wrong, waits=None, faults=None, many=-1)
        for wrong in (None, "ab", 3, {}):
            self.refused(BadWish, {"word": "wait", "place": -1}, Arena, plant, 0, 1, waits=wrong, faults=None, many=-1)
            self.refused(BadPlant, {"word": "fault", "place": -1}, Arena, plant, 0, 1, faults=wrong, many=-1)
        good = ((), (), 1)
        cases = [None, (), ((), ()), ((), (), 1, 1), [(), (), 1], (None, (), 1), ((), None, 1), ("", (), 1),
                 ((), (), 0), ((), (), 9), ((), ((0, 1),), 1)]
        cases += [((), (), n) for n in NO_NUMBERS] + [((wrong,), (), 1) for wrong in NO_PATTERNS if wrong not in ("", {})]
        for wrong in cases:
            self.refused(BadWish, {"word": "wait", "place": 1}, Arena, plant, 0, 1, waits=(good, wrong, wrong),
                         faults=None, many=-1)
        cases = [None, (), (0,), (0, "late", 1), [0, "late"], (1, "late"), (-1, "late"), (True, "late"), ("0", "late"),
                 (0, "Late"), (0, ""), (0, None), (0, ["late"]), (0, "stuck0")]
        for wrong in cases:
            self.refused(BadPlant, {"word": "fault", "place": 1}, Arena, DOOR, 0, 1,
                         faults=((0, "stuck0"), wrong, wrong), many=-1)
        for wrong in NO_NUMBERS + [-1, 4]:
            self.refused(BadNumber, {"word": "many"}, Arena, plant, 0, 1, many=wrong)
        self.refused(TooMany, {"limit": 600}, Arena, plant, 0, 1, many=3)

    def test_wrong_calls(self):
        arena = Arena(ring(3, 1), 0, 1)
        game = Game(arena, Wish((), ((),)))
        for wrong in NO_NUMBERS + [-1, 3]:
            for call in (arena.moves, arena.readings_at, arena.overdue, game.bad):
                self.refused(BadNumber, {"word": "standing"}, call, wrong, None)
            for call in (arena.sound, arena.plant_standing, game.in_never, game.ends_at):
                self.refused(BadNumber, {"word": "standing"}, call, wrong)
            self.refused(BadNumber, {"word": "standing"}, arena.calm, wrong, 0)
            self.refused(BadNumber, {"word": "standing"}, arena.calm, 0, wrong)
            self.refused(BadNumber, {"word": "standing"}, game.is_end, wrong, -1)
        for call in (arena.moves, arena.readings_at, arena.overdue, game.bad):
            for wrong in NO_ROWS + [(), (0, 1)]:
                self.refused(BadRow, {"place": -1}, call, 0, wrong)
            for wrong in NO_BITS:
                self.refused(BadRow, {"place": 0}, call, 0, (wrong,))
        for wrong in NO_NUMBERS + [-1, 1]:
            self.refused(BadNumber, {"word": "end"}, game.is_end, 0, wrong)


class TestGames(Case):
    def test_by_chance(self):
        chance = ArenaChance(112)
        met = {True: 0, False: 0}
        for _ in range(120):
            game, plain = chance.game(outputs=chance.random.randint(0, 2))
            for p in range(len(game.arena)):
                self.told(plain.never[p], game.in_never, p)
                self.told(tuple(j for j, end in enumerate(plain.ends) if end[p]), game.ends_at, p)
                for j, end in enumerate(plain.ends):
                    self.told(end[p], game.is_end, p, j)
                for r, row in enumerate(game.arena.rows):
                    self.told(plain.bad[p][r], game.bad, p, list(row))
                    met[plain.bad[p][r]] += 1
        self.assertGreater(min(met.values()), 100)

    def test_attributes(self):
        arena, wish = Arena(DOOR, 0, 1), Wish((), ())
        game = Game(arena, wish)
        self.assertIs(game.arena, arena)
        self.assertIs(game.wish, wish)
        self.assertEqual(game.ends_at(0), ())

    def test_bad_by_the_way(self):
        # A place of never that a falling row passes makes the row bad, a place at which it stays does not.
        line = Plant(((3, ((0, "a", 1), (1, "b", 2))),), 1, (), drivers=(("a", 0, 1),))
        for least, most in ((0, 0), (0, 1), (0, 2), (2, 2), (2, None), (1, 1)):
            for never in ((((0, 1),),), (((0, 2),),), (((0, 0),),), ((),), ()):
                wish = Wish(never, ())
                plain = PlainGame(PlainArena(line, least, most), wish)
                game = Game(Arena(line, least, most), wish)
                self.assertEqual([[game.bad(p, row) for row in game.arena.rows] for p in range(len(game.arena))],
                                 plain.bad)
        passed = Game(Arena(line, 2, 2), Wish((((0, 1),),), ()))
        self.assertEqual((passed.bad(0, (0,)), passed.bad(0, (1,))), (False, True))


if __name__ == "__main__":
    unittest.main()
