"""Slowed arenas."""

import unittest

from guardrungs.arenas import Arena, Game
from guardrungs.errors import BadFalling, BadNumber, BadRow, BadWish, OtherShape, TooMany
from guardrungs.moves import falling_moves
from guardrungs.plants import Plant
from guardrungs.slow import moves_in_turn, slowed, slowest
from guardrungs.tables import Table
from guardrungs.wishes import Wish
from tests.checks import NO_BITS, NO_NUMBERS, NO_ROWS, Case
from tests.plaincycles import CycleChance
from tests.plainplants import falling_pairs, reading_of
from tests.test_tables import DOOR, line, two_lines


class TestMoves(Case):
    def in_turn(self, plant, standing, row, least, most, times):
        """One falling behind the other, what came being kept."""
        now = {(frozenset(), tuple(standing))}
        for _ in range(times):
            now = {(come | more, q) for come, p in now for more, q in falling_pairs(plant, p, row, least, most)}
        return tuple(sorted({(reading_of(plant, p, come), p) for come, p in now}))

    def test_by_chance(self):
        chance, met = CycleChance(411), {"ended": 0, "many": 0}
        for number in range(150):
            arena, _ = chance.lively(machines=number % 2 + 1, inputs=number % 4, outputs=number % 3, waits=0, faults=0)
            plant, row = arena.plant, chance.reading(arena.plant.outputs)
            least, most = chance.pick(((0, 0), (0, 1), (1, 1), (0, 2), (1, 2), (2, 2), (0, None), (1, None), (2, 3)))
            standing = tuple(chance.random.randrange(size) for size, _ in plant.machines)
            for times in (1, 2, 3, 5):
                told = self.in_turn(plant, standing, row, least, most, times)
                self.told(told, moves_in_turn, plant, standing, row, least, most, times)
                self.told(told, moves_in_turn, plant, list(standing), list(row), least, most, times)
                top = None if most is None else most * times
                self.assertEqual(told, falling_moves(plant, standing, row, least * times, top))
                met["many"] += len(told) > 2
                met["ended"] += not plant.possible(told[0][1], row)
        self.assertGreater(min(met.values()), 30, met)

    def test_edges(self):
        plant = Plant(((3, ((0, "go", 1), (1, "go", 2))),), 1, (("level", 0, (2,)), ("mark", ("go",))))
        self.told((((1, 1), (2,)),), moves_in_turn, plant, (0,), (0,), 1, 1, 2)
        self.told((((1, 1), (2,)),), moves_in_turn, plant, (0,), (0,), 24, 24, 24)
        self.told((((), (576 % 7,)),), moves_in_turn, line(7), (0,), (), 24, 24, 24)
        self.told(tuple(((), (s,)) for s in range(7)), moves_in_turn, line(7), (3,), (), 24, None, 24)
        self.told((((1, 0), (2,)),), moves_in_turn, plant, (2,), (0,), 0, 0, 24)

    def test_wrong(self):
        for wrong in NO_ROWS + [(), (0, 0)]:
            self.refused(BadRow, {"place": -1}, moves_in_turn, DOOR, (0,), wrong, 2, 1, 0)
        for wrong in NO_BITS:
            self.refused(BadRow, {"place": 0}, moves_in_turn, DOOR, (0,), (wrong,), 2, 1, 0)
        for least, most in ((2, 1), (-1, 1), (0, 25), (True, 1), (25, None)):
            self.refused(BadFalling, {}, moves_in_turn, DOOR, (0,), (0,), least, most, 0)
        for wrong in [0, 25, -1] + NO_NUMBERS:
            self.refused(BadNumber, {"word": "times"}, moves_in_turn, DOOR, (0,), (0,), 0, 1, wrong)


class TestSlowed(Case):
    def test_right(self):
        for least, most, times in ((0, 1, 24), (1, 1, 24), (0, None, 24), (1, None, 24), (2, 3, 8), (0, 0, 24), (5, 8, 3),
                                   (24, 24, 1), (12, None, 2)):
            told = slowed(Arena(DOOR, least, most, many=3), times)
            self.assertEqual((told.fewest, told.most), (least * times, None if most is None else most * times))
            self.assertIs(told.plant, DOOR)
            self.assertEqual((told.waits, told.faults, told.many), ((), (), 0))

    def test_wrong(self):
        wait = ((((),), (), 1),)
        for arena in (Arena(DOOR, 0, 1, waits=wait), Arena(DOOR, 0, 1, faults=((0, "late"),))):
            self.refused(OtherShape, {}, slowed, arena, None)
            self.refused(OtherShape, {}, slowest, Game(arena, Wish((), ((),))), None)
        for wrong in [0, 25, -1] + NO_NUMBERS:
            self.refused(BadNumber, {"word": "times"}, slowed, Arena(DOOR, 24, 24), wrong)
            self.refused(BadNumber, {"word": "limit"}, slowest, Game(Arena(DOOR, 24, 24), Wish((), ())), wrong)
            self.refused(BadWish, {"word": "end", "place": 0}, slowest, Game(Arena(DOOR, 0, 1), Wish((), ((),))), wrong)
        for least, most, times in ((0, 2, 13), (0, 24, 2), (24, 24, 2), (13, None, 2), (2, None, 13)):
            self.refused(BadFalling, {}, slowed, Arena(DOOR, least, most), times)
            self.refused(BadFalling, {}, slowest, Game(Arena(DOOR, least, most), Wish((), ())), times)
        many = Game(Arena(two_lines(), 1, 1), Wish((), ()))
        self.refused(TooMany, {"limit": 600}, slowest, many, 1)
        self.refused(BadNumber, {"word": "limit"}, slowest, many, 0)


class TestSlowest(Case):
    def test_by_chance(self):
        chance, met = CycleChance(412), {}
        for number in range(120):
            game, _ = chance.lively_game(machines=1, size=5, inputs=number % 3, outputs=1, waits=0, faults=0, ends=0,
                                         fallings=((0, 1), (1, 1), (0, 2), (0, None), (1, 2)), changes=3)
            arena = game.arena
            limit = 24 // max(1, arena.fewest if arena.most is None else arena.most)
            good = [times for times in range(1, limit + 1) if Table(Game(slowed(arena, times), game.wish)).guards]
            for most in (1, 2, limit):
                told = max([times for times in good if times <= most], default=0)
                self.told(told, slowest, game, most)
                met[told] = met.get(told, 0) + 1
        self.assertGreaterEqual(len(met), 4, met)
        self.assertTrue(0 in met and 1 in met)

    def test_runs_out(self):
        """A guard must act at the latest behind so many changes."""
        for many in (1, 2, 5, 24):
            arrows = [(s, "on", s + 1) for s in range(many)] + [(s, "home", 0) for s in range(1, many + 1)]
            plant = Plant(((many + 2, tuple(arrows) + ((many, "over", many + 1),)),), 1, (("level", 0, (0,)),),
                          drivers=(("on", 0, 1), ("over", 0, 1), ("home", 0, 0)))
            game = Game(Arena(plant, 0, 1), Wish((((0, many + 1),),), ()))
            # One can always write 0, so that nothing is ever lost.
            self.told(24, slowest, game, 24)
            free = Plant(((many + 2, tuple(arrows) + ((many, "over", many + 1),)),), 1, (("level", 0, (0,)),),
                         drivers=(("home", 0, 0),))
            self.told(0, slowest, Game(Arena(free, 0, 1), game.wish), 24)
            # Without a change the row of 0 lets nothing come; with "on" free at the start alone it is too late.
            two = [(s, "on", s + 1) for s in range(many + 1)] + [(0, "off", many + 2)]
            two += [(many + 2 + s, "off", many + 3 + s) for s in range(many)]
            both = Plant(((2 * many + 3, tuple(two)),), 1, (("level", 0, (0,)),), drivers=(("on", 0, 1), ("off", 0, 0)))
            wish = Wish((((0, many + 1),), ((0, 2 * many + 2),)), ())
            self.told(min(many, 24), slowest, Game(Arena(both, 0, 1), wish), 24)
            self.told(min(many, 1), slowest, Game(Arena(both, 0, 1), wish), 1)


if __name__ == "__main__":
    unittest.main()
