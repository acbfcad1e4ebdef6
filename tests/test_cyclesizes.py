"""The largest sizes that the document names, for stages 9 to 14."""

import unittest

from guardrungs.alarms import Watched
from guardrungs.arenas import Arena, Game
from guardrungs.carried import Carrier, carried_by, carried_upto
from guardrungs.charts import check_chart, judge_chart
from guardrungs.errors import TooMany
from guardrungs.cutting import first_miss, job_ends, who_runs
from guardrungs.desks import Desk
from guardrungs.eyes import deaf, least_eyes
from guardrungs.freeplants import Both, safe, top_row
from guardrungs.handing import Handed, keeping_pairs
from guardrungs.instants import always_one, stretch
from guardrungs.keptbits import least_kept, map_by
from guardrungs.listings import history_lines, machine_lines
from guardrungs.machines import Machine, machine_of
from guardrungs.manychanges import greatest_most, row_for, rows_at, shut_shortest
from guardrungs.moves import falling_moves
from guardrungs.noticing import hidden_ring, hidden_runs, noticed_free, noticed_within
from guardrungs.onebyone import let_rows, rest_of
from guardrungs.plants import Plant
from guardrungs.ranks import ranked, same_for_all_ranks, telling_ranks
from guardrungs.rightness import common_rights, keeping_rights, like_rights, loop_smooth, places_behind, smooth_rights
from guardrungs.rungs import Rungs
from guardrungs.safemoments import Changed, unsafe_row, unsafe_within
from guardrungs.slow import moves_in_turn, slowed, slowest
from guardrungs.tables import Table
from guardrungs.tasks import Tasks
from guardrungs.wishes import Wish
from tests.checks import Case
from tests.plain import Chance
from tests.test_plantsizes import NAMES


def grid(sizes, marks=0, drivers=12):
    """As in the sizes of plants, but each driver's bit is 1."""
    machines = []
    for m, size in enumerate(sizes):
        arrows = [(s, NAMES[3 * m + k], (s + (1, size - 1, 2)[k]) % size) for s in range(size) for k in range(3)]
        machines.append((size, tuple(arrows)))
    inputs = [("mark", (NAMES[2 * k],)) for k in range(marks)]
    inputs += [("level", k % len(sizes), (0, 1)) for k in range(6 - marks)]
    return Plant(machines, 4, inputs, drivers=[(NAMES[k], k % 4, 1) for k in range(drivers)])


class TestCharts(Case):
    def test_sixty_standings(self):
        chance = Chance(361)
        for marks, drivers in ((0, 12), (3, 6)):
            plant = grid((6, 5, 5, 4), marks, drivers)
            arrows = tuple(tuple(chance.random.randrange(60) for _ in plant.changes) for _ in range(60))
            still = (((0, 0, 0, 0),) * 60, arrows)
            check_chart(plant, still)
            self.told(None, shut_shortest, plant, still, None)
            shows = (tuple(chance.reading(4) for _ in range(60)), arrows)
            self.assertIsNotNone(shut_shortest(plant, shows, None))
            self.assertIn(judge_chart(plant, Wish([((0, 5), (1, 4), (2, 4), (3, 3))] * 6, [(((0, 1),),)] * 3), shows)[0],
                          ("bad", "shut"))
            arena = Arena(plant, 0, None)
            word, run, data = carried_by(arena, shows)
            self.assertIn(word, ("shut", "unlike"))
            self.assertEqual(carried_by(arena, still), ("carried", (), None))
            self.assertLess(carried_upto(plant, shows), 24)
            book = Carrier(Arena(plant, 24, 24), (((0, 0, 0, 0),), ((0,) * 12,)))
            self.assertEqual(len(book.run(chance.readings(6, 200))), 200)

    def test_waits_and_faults(self):
        small = grid((3, 3), 1, 5)
        waits = (((((0, 0),),), (((1, 1),),), 8), ((((1, 0),),), (((0, 1),),), 7))
        for more in ({"waits": waits}, {"faults": ((0, "late"), (3, "stuck1")), "many": 2}):
            arena = Arena(small, 0, 2, **more)
            try:
                self.assertEqual(carried_by(arena, (((0, 0, 0, 0),), ((0,) * 6,)))[0], "carried")
            except TooMany as error:
                self.assertEqual(error.limit, 4000)

    def test_rests_and_rows(self):
        plant = grid((6, 5, 5, 4), 0, 9)
        wish = Wish([((0, 3), (1, 3)), ((1, 2), (2, 2), (3, 2))], [(((m, 1),),) for m in range(3)])
        rest = rest_of(plant, wish)
        self.assertTrue(all(let_rows(plant, wish, p) for p in rest[:5]))
        self.refused(TooMany, {"limit": 600}, rest_of, grid((6, 6, 6, 6)), wish)
        big = grid((6, 6, 6, 6), 6, 12)
        never = Wish([((0, 5), (1, 4)), ((2, 3), (3, 3))], ())
        for most in (1, 24, None):
            self.assertIn((0, 0, 0, 0), rows_at(big, never, (0, 0, 0, 0), most))
        changes = row_for(big, big.origin, (1, 1, 1, 1), 24, None, big.reading_of((3, 3, 3, 3), big.changes), (3, 3, 3, 3))
        self.assertEqual(len(changes), 24)
        self.assertEqual(len(falling_moves(big, big.origin, (1, 1, 1, 1), 0, 1)), 13)
        self.assertEqual(greatest_most(grid((2, 2, 2), 0, 9), Wish([((0, 1), (1, 1))], ())), None)

    def test_free_plants(self):
        plant = grid((6, 5, 5, 4), 0, 9)
        game = Game(Arena(plant, 0, 1), Wish([((0, 3), (1, 3)), ((1, 2), (2, 2), (3, 2))], ()))
        self.assertEqual(top_row(game, safe(game)[:1]) is None, False)
        one, two = Chance(362).machine(500, 6, 4), Chance(363).machine(500, 6, 4)
        self.assertEqual(len(Both(one, two).run(Chance(364).readings(6, 200))), 200)


class TestFaults(Case):
    def test_noticing(self):
        chance = Chance(365)
        arena = Arena(grid((3, 2), 1, 6), 1, 1, faults=((1, "stuck0"), (4, "late")), many=2)
        book = Machine.of_rows(6, 4, [[((0, 0, 0, 0), 0)] * 64])
        for call, args in ((noticed_within, (arena, book)), (noticed_free, (arena,)), (hidden_runs, (arena, book, 199)),
                           (hidden_ring, (arena, book))):
            try:
                call(*args)
            except TooMany as error:
                self.assertEqual(error.limit, 20000)
        watched = Watched(arena, chance.machine(500, 6, 4))
        self.assertEqual(len(watched.run(chance.readings(6, 200))), 200)
        asked = Watched(arena, chance.machine(300, 10, 4))
        self.assertEqual(len(asked.run(chance.readings(10, 200))), 200)
        three = Arena(grid((2,), 0, 3), 0, 1, faults=((0, "stuck0"), (1, "stuck1")), many=3)
        self.assertGreaterEqual(len(three), 4)
        self.told(0, noticed_free, three)

    def test_eyes(self):
        plant = grid((4, 3, 2), 1, 9)
        told = least_eyes(Game(Arena(plant, 0, 1), Wish([((0, 3), (1, 2))], ())))
        self.told(((),), least_eyes, Game(Arena(plant, 0, 1), Wish([((0, 3), (1, 2))], ())))
        self.assertEqual(told, ((),))
        book = deaf(Chance(366).machine(500, 6, 4), 8, (0, 1, 3, 4, 6, 7))
        self.assertEqual(len(machine_of(book).inputs), 8)


class TestTasks(Case):
    def test_four(self):
        chance = Chance(367)
        books = [chance.rungs(rungs=24, inputs=8, outputs=6, cells=8, timers=4, counters=4) for _ in range(4)]
        told = []
        for k, book in enumerate(books):
            ins = [f"i{j}" for j in range(8)]
            outs = [f"w{k}.{j}" for j in range(6)]
            names = dict(zip(book.outputs, outs))

            def renamed(part):
                if isinstance(part, tuple):
                    return tuple(renamed(one) for one in part)
                return names.get(part, part)
            told.append((Rungs(ins, outs, book.cells, renamed(book.rungs), timers=book.timers, counters=book.counters),
                         (12, 11, 7, 5)[k], k))
        tasks = Tasks(tuple(f"i{j}" for j in range(8)), [f"w{k}.0" for k in range(4)], told)
        self.assertEqual(len(tasks.run(chance.readings(8, 200))), 200)
        frame = tuple((tuple(sorted(f"w{j}" for j in range(4))), f"w{k}") for k in range(4))
        times = ((12, 11), (11, 10), (10, 9), (9, 8))
        self.told(False, same_for_all_ranks, frame, times, (0, 1, 2, 3), (3, 2, 1, 0))
        self.assertLess(telling_ranks(frame, times, (0, 1, 2, 3), (3, 2, 1, 0))[1], 144)
        deep = ("name", "u0")
        for _ in range(39):
            deep = ("not", deep)
        self.assertEqual(len(ranked(frame, (deep,) * 1 + (("bit", 0),) * 3, times, (0, 1, 2, 3)).run([(0,) * 4] * 200)), 200)


class TestChanges(Case):
    def test_machines_of_500(self):
        chance = Chance(371)
        old, new = chance.machine(500, 9, 6), chance.machine(500, 9, 6)
        rights = smooth_rights(old, new)
        self.assertEqual(common_rights(rights, like_rights(old, old))[0], common_rights(like_rights(old, old), rights)[0])
        unsafe = unsafe_within(old, rights)
        self.assertIs(unsafe_row(old, rights, 1000) is None, unsafe is not None)
        self.assertEqual(unsafe_row(old, ((),) * 500, 200)[1][-1], (0,) * 9)
        turn = [chance.pick((-1, -1, -1, 7)) for _ in range(500)]
        readings = chance.readings(9, 200)
        self.assertEqual(len(Changed(old, new, turn, since=60).run(readings)), 200)
        codes = tuple(tuple((s >> k) & 1 for k in range(9)) for s in range(256))
        told = least_kept(tuple(code[:8] for code in codes), tuple((code[3],) for code in codes))
        self.assertEqual(told, ((3,),))
        self.assertEqual(len(map_by(codes, tuple((code[3],) for code in codes), list(range(9)))), 256)

    def test_arenas_of_600(self):
        chance = Chance(372)
        still, new = Machine.of_rows(6, 4, [[((0, 0, 0, 0), 0)] * 64]), chance.machine(500, 6, 4)
        for falling in ((0, 1), (24, 24)):
            game = Game(Arena(grid((6, 5, 5, 4), 3), *falling), Wish([((0, 5), (1, 4))], [(((0, 1),),)] * 3))
            self.assertEqual(len(game.arena), 600)
            keeping = keeping_rights(game, still, new)
            self.assertEqual(len(keeping), 1)
            self.assertEqual(len(loop_smooth(game.arena, still, new)), 1)
            self.assertEqual(len(places_behind(game.arena, still)), 1)
            desk = Desk(game, new)
            for k in range(60):
                desk.cycle(k * k)
            self.assertEqual((len(history_lines(desk)), desk.deeds), (60, 60))
            self.assertEqual(len(desk.tried([(k, None) for k in range(200)])), 200)
        self.assertEqual(len(machine_lines(new)), 32000)

    def test_slow(self):
        plant = grid((6, 5, 5, 4), 3, 6)
        self.assertEqual(len(slowed(Arena(plant, 1, 1), 24)), 600)
        self.assertEqual(moves_in_turn(plant, plant.origin, (1, 1, 1, 1), 24, 24, 24),
                         moves_in_turn(plant, plant.origin, (1, 1, 1, 1), 24, 24, 23))
        wish = Wish([((0, 5), (1, 4))], ())
        try:
            self.assertIn(slowest(Game(Arena(grid((3, 2), 1, 6), 0, 1), wish), 24), range(25))
        except TooMany as error:
            self.assertEqual(error.limit, 600)

    def test_handing(self):
        plant = grid((3, 2, 2), 0, 6)
        one, two = [Game(Arena(plant, 1, 1), Wish([((0, s), (1, 1), (2, 1))], ())) for s in (1, 2)]
        try:
            tables = [Table(one), Table(two)]
            pairs = keeping_pairs(tables[0], tables[1])
            self.assertEqual(len(pairs), sum(len(tables[0].let_at(lot)) for lot in tables[0].lots))
            book = Handed(tables[0], tables[1], since=60)
            self.assertEqual(len(book.run(Chance(373).readings(10, 200))), 200)
        except TooMany as error:
            self.assertEqual(error.limit, 600)

    def test_cut_tasks(self):
        jobs = ((1, 16, 0), (1, 9, 8), (1, 5, 4), (2, 7, 6), (12, 24, 23))
        self.assertEqual(len(who_runs(jobs, 5040)), 5040)
        told = first_miss(jobs)
        self.assertTrue(told is None or told[1] >= 0)
        self.assertLessEqual(len(job_ends(jobs, 4, 200)), 200)
        jobs = ((1, 16, 0), (1, 9, 8), (1, 5, 4), (1, 7, 6))
        programs = tuple(((("a", "b", "c", "d"), (name,)),) for name in "abcd")
        for place in range(4):
            self.assertIs(always_one(jobs, programs, place), True)
        self.assertEqual(len(stretch(jobs, programs, 0, 200)), 3)


if __name__ == "__main__":
    unittest.main()
