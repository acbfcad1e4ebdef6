"""The largest sizes that the document names, for stages 6 to 9."""

import unittest

from guardrungs.alike import alike, pairs_met, unlike_row
from guardrungs.arenas import Arena, Game
from guardrungs.around import needless_around, unlike_around
from guardrungs.drums import Drummed, drum_of, is_drum
from guardrungs.errors import TooMany
from guardrungs.forgets import forgetting, healing, recent, remembered, unhealed
from guardrungs.formsof import rungs_of
from guardrungs.freest import Freest, lets
from guardrungs.freestplain import Widest, pair_open
from guardrungs.hangs import hanging, hangs, two_rows
from guardrungs.joining import Beside, Bent, InRow
from guardrungs.known import known, lots_reached
from guardrungs.least import least
from guardrungs.loops import judge, judge_asked, walk
from guardrungs.machines import Machine, machine_of
from guardrungs.moves import depth, depth_of, falling_moves, layers, meets
from guardrungs.needless import needless_parts, trimmed
from guardrungs.plantchains import chain_of_plant, plant_of_chain
from guardrungs.plants import Plant
from guardrungs.planttexts import plant_from, plant_text
from guardrungs.plays import beaten, is_play, play_of
from guardrungs.rungs import Rungs
from guardrungs.scaling import held, held_answers, settles
from guardrungs.sheets import Sheet
from guardrungs.tables import Table, is_table
from guardrungs.timercells import untimed
from guardrungs.wishes import Wish
from tests.checks import Case
from tests.plain import Chance

NAMES = [f"c{k}" for k in range(12)]


def grid(sizes, marks=0, drivers=12):
    """Machines of these sizes, each with three changes of its own; up to 12 changes, 6 inputs and 4 outputs."""
    machines = []
    for m, size in enumerate(sizes):
        arrows = [(s, NAMES[3 * m + k], (s + (1, size - 1, 2)[k]) % size) for s in range(size) for k in range(3)]
        machines.append((size, tuple(arrows)))
    inputs = [("mark", (NAMES[2 * k],)) for k in range(marks)]
    inputs += [("level", k % len(sizes), (0, 1)) for k in range(6 - marks)]
    return Plant(machines, 4, inputs, drivers=[(NAMES[k], k % 4, k // 4 % 2) for k in range(drivers)])


class TestBooks(Case):
    def test_books_of_eight_inputs(self):
        chance = Chance(201)
        book = chance.rungs(rungs=24, inputs=8, outputs=6, cells=2, timers=0, counters=0, deep=3)
        readings = chance.readings(8, 200)
        self.assertLess(len(machine_of(book)), 1500)
        told = trimmed(book)
        self.assertEqual(told.run(readings), book.run(readings))
        self.assertLess(len(told.rungs), 24)
        self.assertTrue(alike(book, told))
        self.assertLessEqual(len(needless_parts(told)), 0)
        self.assertEqual(len(hanging(book)), 6)
        sheet = chance.sheet(blocks=40, inputs=8, outputs=6, timed=False)
        trim = trimmed(sheet)
        self.assertEqual(trim.run(readings), sheet.run(readings))
        chain = chance.chain(steps=12, transitions=16, inputs=8, outputs=6, cells=8, actions=24)
        for joined in (Beside(book, chain), InRow(Bent(book, tuple(range(8))), Bent(chain, (0, 1, 2, 3, 4, 5, 0, 1)))):
            self.assertEqual(len(joined.run([row * 2 for row in readings] if len(joined.inputs) == 16 else readings)), 200)

    def test_timers_and_counters(self):
        blocks = []
        for k, (kind, number) in enumerate((("on", 16), ("off", 16), ("pulse", 16), ("on", 9))):
            blocks.append((f"t{k}", kind, (f"i{k}",), number))
        blocks += [(f"u{k}", "count", (f"t{k}", f"i{k + 4}"), 16) for k in range(4)]
        sheet = Sheet(tuple(f"i{k}" for k in range(8)), blocks, tuple((f"x{k}", f"u{k}") for k in range(4)))
        readings = Chance(202).readings(8, 200)
        self.assertEqual(untimed(sheet).run(readings), sheet.run(readings))
        self.assertEqual(len(held(readings, 16)), 3200)
        cells = [(("name", f"i{k}"), (("put", f"c{k}"),)) for k in range(8)]
        book = Rungs(tuple(f"i{k}" for k in range(8)), ("x",), tuple(f"c{k}" for k in range(8)),
                     cells + [(("name", "i0"), (("feed", "t"),)), (("name", "t"), (("put", "x"),))],
                     timers=(("t", "on", 4),))
        self.assertIsNone(held_answers(book, 4))

    def test_500_standings(self):
        chance = Chance(203)
        one, two = chance.machine(500, 9, 6), chance.machine(500, 9, 6)
        self.assertIs(alike(one, two), unlike_row(one, two) is None)
        self.assertEqual(pairs_met(one, one), len(machine_of(one)))
        for machine in (one, two):
            told = hanging(machine)
            self.assertIs(hangs(machine, 0, 8), 8 in told[0])
            self.assertIs(two_rows(machine, 0, 8) is None, 8 not in told[0])
            self.assertIs(settles(machine), settles(least(machine)))
            self.assertLessEqual(forgetting(machine) is None, remembered(machine, 4000) is not None)
            self.assertLessEqual(healing(machine) is None, unhealed(machine, 4000) is not None)
            recent(machine, chance.readings(9, 200), 199)
        register = Machine.of_rows(1, 1, [[((s >> 7,), (s << 1 | bit) & 255) for bit in (0, 1)] for s in range(256)])
        self.assertEqual((forgetting(register), healing(register)), (8, 8))

    def test_long_rings_and_lines(self):
        def ring(many, other):
            """A branch into two rings."""
            told = [[((0,), 1), ((0,), 1 + many)]]
            told += [[((0 if s else 1,), 1 + (s + 1) % many)] * 2 for s in range(many)]
            told += [[((0 if s else 1,), 1 + many + (s + 1) % other)] * 2 for s in range(other)]
            return Machine.of_rows(1, 1, told)
        self.assertIsNone(healing(ring(249, 250)))
        row, other = unhealed(ring(249, 250), 4000)
        self.assertNotEqual(ring(249, 250).run(row)[-1], ring(249, 250).run(other)[-1])

        def line(many):
            return Machine.of_rows(2, 1, [[((1 if s == many - 1 else 0,), (s + 1) % many if r == 3 else s)
                                           for r in range(4)] for s in range(many)])
        self.assertEqual(len(unlike_row(line(500), line(499))), 499)
        self.assertEqual(len(two_rows(line(500), 0, 1)[0]), 500)


class TestPlants(Case):
    def test_all_standings(self):
        plant = grid((6, 6, 6, 6))
        self.assertEqual(len(falling_moves(plant, plant.origin, (1, 1, 1, 1), 0, None)), 36)
        self.assertEqual(len(layers(plant, plant.origin, (1, 1, 1, 1), 24)), 25)
        self.assertGreater(depth_of(plant), 0)
        self.assertTrue(meets(grid((6, 6, 6, 6), drivers=0), plant.origin, (0,) * 4, 24, 24,
                              (tuple((m, 3) for m in range(4)),)))
        marked = grid((6, 6, 6, 6), marks=6, drivers=0)
        self.assertEqual(len(falling_moves(marked, marked.origin, (0,) * 4, 0, None)), 82944)
        self.assertEqual(len(falling_moves(marked, marked.origin, (0,) * 4, 24, 24)), 82944)
        self.assertEqual(depth(marked, marked.origin, (0,) * 4), depth_of(marked))
        self.assertEqual(plant_text(plant_from(plant_text(marked))), plant_text(marked))
        chain = chain_of_plant(marked)
        lots = [[f"m{m}.s{s}" for s in range(6)] for m in range(4)]
        self.assertEqual(len(plant_of_chain(chain, lots).changes), len(chain.transitions))

    def test_arenas(self):
        for marks in (0, 3):
            for falling in ((0, 1), (0, None), (24, 24), (3, 24)):
                arena = Arena(grid((6, 5, 5, 4), marks), *falling)
                self.assertEqual(len(arena), 600)
                p = 599
                for row in arena.rows[::5]:
                    wanted = falling_moves(arena.plant, arena.plant_standing(p), row, *falling)
                    self.assertEqual([(x, arena.plant_standing(q)) for x, q in sorted(
                        arena.moves(p, row), key=lambda move: (move[0], arena.plant_standing(move[1])))], list(wanted))
        self.refused(TooMany, {"limit": 600}, Arena, grid((6, 6, 6, 6)), 0, None)
        waits = (((((0, 0),),), (((1, 1),),), 8), ((((1, 0),),), (((0, 1),),), 7))
        small = grid((3, 3), drivers=5)
        self.assertGreater(len(Arena(small, 0, 2, waits=waits)), 100)
        self.assertGreater(len(Arena(small, 0, 2, faults=((0, "late"), (3, "stuck1")), many=3)), 30)

    def test_lots_and_guards(self):
        falls = Plant(((600, tuple((s, "on", s + 1) for s in range(599))),), 0, ())
        for ends in ((), (((),),), ((((0, 0),),),)):
            game = Game(Arena(falls, 0, 1), Wish((((0, 599),),), ends))
            self.assertEqual(len(lots_reached(game.arena)), 600)
            play = play_of(game)
            self.assertTrue(is_play(game, play))
            book = Machine.of_rows(0, 0, [[((), (s + 1) % 500)] for s in range(500)])
            word, run, last = beaten(game, play, book)
            self.assertIn(word, ("bad", "shut"))
            self.assertLessEqual(len(run), 600)
            self.assertIn(last, ((), 0))
        stays = Plant(((600, tuple((s, "on", min(s + 1, 599)) for s in range(600))),), 0, ())
        table = Table(Game(Arena(stays, 0, 1), Wish((), ((((0, 599),),), ((),)))))
        self.assertEqual((len(table), len(table.path((0,), 0, 0))), (600, 599))
        self.assertTrue(is_table(table.game, table.lots))
        self.assertIsNone(pair_open(table))
        self.assertEqual(Widest(table).run([()] * 200), ((),) * 200)
        self.assertEqual(len(Freest(table).run([()] * 200)), 200)
        self.assertTrue(lets(table, [()] * 200, [()] * 200))
        self.assertEqual(known(table.game.arena, [()] * 200, [()] * 199), tuple(range(200)))
        self.assertFalse(is_drum(table, [()] * 200))

    def test_drums(self):
        plant = Plant(((20, tuple((s, "on", (s + 1) % 20) for s in range(20))),), 1, (("level", 0, (3, 4)),),
                      drivers=(("on", 0, 1),))
        table = Table(Game(Arena(plant, 1, 1), Wish((), tuple((((0, s),),) for s in (19, 7, 12)))))
        drum = drum_of(table)
        self.assertTrue(is_drum(table, drum))
        self.assertEqual(judge(table.game, Drummed(table, drum)), ("good", (), None))
        one = Plant(((400, tuple((s, "on", (s + 1) % 400) for s in range(400))),), 0, ())
        table = Table(Game(Arena(one, 1, 1), Wish((), tuple((((0, s),),) for s in (0, 399, 200)))))
        self.assertTrue(is_drum(table, drum_of(table)))

    def test_books_around(self):
        plant = grid((5, 4, 3), drivers=9)
        arena = Arena(plant, 0, 2)
        self.assertEqual(len(arena), 60)
        chance = Chance(205)
        book, other = chance.machine(300, 6, 4), chance.machine(300, 10, 4)
        game = Game(arena, Wish((), ((((0, 4),),), (((1, 3), (2, 2)),), ((),))))
        self.assertIn(judge(game, book)[0], ("good", "shut"))
        self.assertIsNone(unlike_around(arena, book, rungs_of(book)))
        try:
            self.assertIn(judge_asked(game, other)[0], ("good", "shut"))
        except TooMany as error:
            self.assertEqual(error.limit, 20000)
        self.assertEqual(len(walk(arena, other, list(range(200)), asks=[(0, 1, 1, 0)] * 200)), 200)
        small = chance.machine(8, 6, 4)
        self.assertLessEqual(len(needless_around(arena, rungs_of(small))), 20)


if __name__ == "__main__":
    unittest.main()
