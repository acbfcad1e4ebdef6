"""The largest sizes that the document names, for stages 9 to 12."""

import unittest

from guardrungs.alarms import Watched
from guardrungs.arenas import Arena, Game
from guardrungs.carried import Carrier, carried_by, carried_upto
from guardrungs.charts import check_chart, judge_chart
from guardrungs.errors import TooMany
from guardrungs.eyes import deaf, least_eyes
from guardrungs.freeplants import Both, safe, top_row
from guardrungs.machines import Machine, machine_of
from guardrungs.manychanges import greatest_most, row_for, rows_at, shut_shortest
from guardrungs.moves import falling_moves
from guardrungs.noticing import hidden_ring, hidden_runs, noticed_free, noticed_within
from guardrungs.onebyone import let_rows, rest_of
from guardrungs.plants import Plant
from guardrungs.ranks import ranked, same_for_all_ranks, telling_ranks
from guardrungs.rungs import Rungs
from guardrungs.tasks import Tasks
from guardrungs.wishes import Wish
from tests.checks import Case
from tests.plain import Chance
from tests.test_plantsizes import NAMES


def grid(sizes, marks=0, drivers=12):
    """As in the sizes of plants, but each driver's bit is 1."""
    machines = []
    for m, size in enumerate(sizes):
        arrows = [(s, NAMES[3 * m + k], (s + (1, size - 1, 2)[k]) % size) for s in range(size) for k in range(3)]
        machines.append((size, tuple(arrows)))
    inputs = [("mark", (NAMES[2 * k],)) for k in range(marks)]
    inputs += [("level", k % len(sizes), (0, 1)) for k in range(6 - marks)]
    return Plant(machines, 4, inputs, drivers=[(NAMES[k], k % 4, 1) for k in range(drivers)])


class TestCharts(Case):
    def test_sixty_standings(self):
        chance = Chance(361)
        for marks, drivers in ((0, 12), (3, 6)):
            plant = grid((6, 5, 5, 4), marks, drivers)
            arrows = tuple(tuple(chance.random.randrange(60) for _ in plant.changes) for _ in range(60))
            still = (((0, 0, 0, 0),) * 60, arrows)
            check_chart(plant, still)
            self.told(None, shut_shortest, plant, still, None)
            shows = (tuple(chance.reading(4) for _ in range(60)), arrows)
            self.assertIsNotNone(shut_shortest(plant, shows, None))
            self.assertIn(judge_chart(plant, Wish([((0, 5), (1, 4), (2, 4), (3, 3))] * 6, [(((0, 1),),)] * 3), shows)[0],
                          ("bad", "shut"))
            arena = Arena(plant, 0, None)
            word, run, data = carried_by(arena, shows)
            self.assertIn(word, ("shut", "unlike"))
            self.assertEqual(carried_by(arena, still), ("carried", (), None))
            self.assertLess(carried_upto(plant, shows), 24)
            book = Carrier(Arena(plant, 24, 24), (((0, 0, 0, 0),), ((0,) * 12,)))
            self.assertEqual(len(book.run(chance.readings(6, 200))), 200)

    def test_waits_and_faults(self):
        small = grid((3, 3), 1, 5)
        waits = (((((0, 0),),), (((1, 1),),), 8), ((((1, 0),),), (((0, 1),),), 7))
        for more in ({"waits": waits}, {"faults": ((0, "late"), (3, "stuck1")), "many": 2}):
            arena = Arena(small, 0, 2, **more)
            try:
                self.assertEqual(carried_by(arena, (((0, 0, 0, 0),), ((0,) * 6,)))[0], "carried")
            except TooMany as error:
                self.assertEqual(error.limit, 4000)

    def test_rests_and_rows(self):
        plant = grid((6, 5, 5, 4), 0, 9)
        wish = Wish([((0, 3), (1, 3)), ((1, 2), (2, 2), (3, 2))], [(((m, 1),),) for m in range(3)])
        rest = rest_of(plant, wish)
        self.assertTrue(all(let_rows(plant, wish, p) for p in rest[:5]))
        self.refused(TooMany, {"limit": 600}, rest_of, grid((6, 6, 6, 6)), wish)
        big = grid((6, 6, 6, 6), 6, 12)
        never = Wish([((0, 5), (1, 4)), ((2, 3), (3, 3))], ())
        for most in (1, 24, None):
            self.assertIn((0, 0, 0, 0), rows_at(big, never, (0, 0, 0, 0), most))
        changes = row_for(big, big.origin, (1, 1, 1, 1), 24, None, big.reading_of((3, 3, 3, 3), big.changes), (3, 3, 3, 3))
        self.assertEqual(len(changes), 24)
        self.assertEqual(len(falling_moves(big, big.origin, (1, 1, 1, 1), 0, 1)), 13)
        self.assertEqual(greatest_most(grid((2, 2, 2), 0, 9), Wish([((0, 1), (1, 1))], ())), None)

    def test_free_plants(self):
        plant = grid((6, 5, 5, 4), 0, 9)
        game = Game(Arena(plant, 0, 1), Wish([((0, 3), (1, 3)), ((1, 2), (2, 2), (3, 2))], ()))
        self.assertEqual(top_row(game, safe(game)[:1]) is None, False)
        one, two = Chance(362).machine(500, 6, 4), Chance(363).machine(500, 6, 4)
        self.assertEqual(len(Both(one, two).run(Chance(364).readings(6, 200))), 200)


class TestFaults(Case):
    def test_noticing(self):
        chance = Chance(365)
        arena = Arena(grid((3, 2), 1, 6), 1, 1, faults=((1, "stuck0"), (4, "late")), many=2)
        book = Machine.of_rows(6, 4, [[((0, 0, 0, 0), 0)] * 64])
        for call, args in ((noticed_within, (arena, book)), (noticed_free, (arena,)), (hidden_runs, (arena, book, 199)),
                           (hidden_ring, (arena, book))):
            try:
                call(*args)
            except TooMany as error:
                self.assertEqual(error.limit, 20000)
        watched = Watched(arena, chance.machine(500, 6, 4))
        self.assertEqual(len(watched.run(chance.readings(6, 200))), 200)
        asked = Watched(arena, chance.machine(300, 10, 4))
        self.assertEqual(len(asked.run(chance.readings(10, 200))), 200)
        three = Arena(grid((2,), 0, 3), 0, 1, faults=((0, "stuck0"), (1, "stuck1")), many=3)
        self.assertGreaterEqual(len(three), 4)
        self.told(0, noticed_free, three)

    def test_eyes(self):
        plant = grid((4, 3, 2), 1, 9)
        told = least_eyes(Game(Arena(plant, 0, 1), Wish([((0, 3), (1, 2))], ())))
        self.told(((),), least_eyes, Game(Arena(plant, 0, 1), Wish([((0, 3), (1, 2))], ())))
        self.assertEqual(told, ((),))
        book = deaf(Chance(366).machine(500, 6, 4), 8, (0, 1, 3, 4, 6, 7))
        self.assertEqual(len(machine_of(book).inputs), 8)


class TestTasks(Case):
    def test_four(self):
        chance = Chance(367)
        books = [chance.rungs(rungs=24, inputs=8, outputs=6, cells=8, timers=4, counters=4) for _ in range(4)]
        told = []
        for k, book in enumerate(books):
            ins = [f"i{j}" for j in range(8)]
            outs = [f"w{k}.{j}" for j in range(6)]
            names = dict(zip(book.outputs, outs))

            def renamed(part):
                if isinstance(part, tuple):
                    return tuple(renamed(one) for one in part)
                return names.get(part, part)
            told.append((Rungs(ins, outs, book.cells, renamed(book.rungs), timers=book.timers, counters=book.counters),
                         (12, 11, 7, 5)[k], k))
        tasks = Tasks(tuple(f"i{j}" for j in range(8)), [f"w{k}.0" for k in range(4)], told)
        self.assertEqual(len(tasks.run(chance.readings(8, 200))), 200)
        frame = tuple((tuple(sorted(f"w{j}" for j in range(4))), f"w{k}") for k in range(4))
        times = ((12, 11), (11, 10), (10, 9), (9, 8))
        self.told(False, same_for_all_ranks, frame, times, (0, 1, 2, 3), (3, 2, 1, 0))
        self.assertLess(telling_ranks(frame, times, (0, 1, 2, 3), (3, 2, 1, 0))[1], 144)
        deep = ("name", "u0")
        for _ in range(39):
            deep = ("not", deep)
        self.assertEqual(len(ranked(frame, (deep,) * 1 + (("bit", 0),) * 3, times, (0, 1, 2, 3)).run([(0,) * 4] * 200)), 200)


if __name__ == "__main__":
    unittest.main()
