"""False readings noticed, and the alarm."""

import itertools
import unittest

from guardrungs.alarms import Watched, all_faulty, all_sound
from guardrungs.arenas import Arena, Game
from guardrungs.drums import Drummed
from guardrungs.errors import BadLot, BadNumber, BadRow, OtherShape, TooMany
from guardrungs.forgets import healing
from guardrungs.formsof import chain_of, rungs_of, sheet_of
from guardrungs.freest import Freest
from guardrungs.joining import Beside
from guardrungs.known import known
from guardrungs.loops import is_guard, judge, walk
from guardrungs.machines import Machine, machine_of
from guardrungs.noticing import first_false, hidden_ring, hidden_runs, noticed_free, noticed_within
from guardrungs.plants import Plant
from guardrungs.tables import Table
from guardrungs.wishes import Wish
from tests.checks import NO_NUMBERS, Case, is_tuples
from tests.plaincycles import CycleChance, doubles, free_doubles, longest_row
from tests.plainplants import PlainArena
from tests.test_tables import DOOR, wrong_lots

PLANT = Plant(((3, ((0, "a", 1), (0, "d", 2), (1, "b", 0), (2, "e", 1))),), 0, (("level", 0, (1,)),))
RESTS = Arena(PLANT, 0, 1, faults=((0, "stuck0"),), many=1)
TURNS = Arena(PLANT, 1, 1, faults=((0, "stuck0"),), many=1)
DEAF = Machine(("i",), (), ((((), 0), ((), 0)),))


def false_arenas(number, many, **more):
    chance = CycleChance(number)
    for at in range(many):
        told = dict(faults=1, inputs=at % 2 + 1, outputs=at % 2, most_standings=24, waits=0.1, changes=3, driven=0.5)
        told.update(more)
        arena, plain = chance.lively(**told)
        yield chance, arena, plain


def beating(number, many):
    """A ring that goes on at each reading, now and then by a shorter way; its levels are told falsely."""
    chance = CycleChance(number)
    for at in range(many):
        size = chance.random.randint(3, 5)
        arrows = [(s, "on", (s + 1) % size) for s in range(size)]
        if at % 2:
            arrows.append((chance.random.randrange(size), "skip", chance.random.randrange(size)))
        inputs = [("level", 0, tuple(sorted(chance.some(range(size), 1, size - 1)))) for _ in range(at % 2 + 1)]
        plant = Plant(((size, tuple(arrows)),), at % 3 // 2, inputs,
                      drivers=(("skip", 0, 1),) if at % 2 and at % 3 == 2 else ())
        told = {"faults": chance.some([(k, kind) for k in range(len(inputs)) for kind in ("stuck0", "stuck1", "late")], 1, 2),
                "many": 1}
        yield chance, Arena(plant, 1, 1, **told), PlainArena(plant, 1, 1, (), told["faults"], 1)


class TestNoticed(Case):
    def watch(self, arena, book, run, other):
        """Both are runs around the book, with the same readings and answers; the other one is sound."""
        self.assertTrue(is_tuples((run, other)))
        self.assertEqual([step[:2] for step in run], [step[:2] for step in other])
        for one in (run, other):
            p, reading, standing = 0, arena.first, book.start()
            for answer, behind, q in one:
                told, standing = book.step(standing, reading)
                self.assertEqual(told, answer)
                self.assertIn((behind, q), arena.moves(p, answer))
                p, reading = q, behind
        self.assertIsNone(first_false(arena, other))
        return [not arena.sound(step[2]) for step in run]

    def test_by_chance(self):
        met = {"zero": 0, "some": 0, "none": 0, "two": 0}
        for chance, arena, plain in list(false_arenas(341, 150)) + list(beating(340, 150)):
            plant = arena.plant
            book = chance.machine(chance.random.randint(1, 3), len(plant.inputs), plant.outputs)
            follows, sound = doubles(plain, book)
            least = longest_row(follows, lambda place: not sound[place[1]])
            self.told(least, noticed_within, arena, book)
            for n in (0, 1, 2, 3, 7, 30):
                told = self.told(hidden_runs(arena, book, n), hidden_runs, arena, book, n)
                if least is not None and n >= least:
                    self.assertIsNone(told)
                else:
                    faulty = self.watch(arena, book, *told)
                    self.assertGreaterEqual(len(faulty), n + 1)
                    self.assertTrue(all(faulty[len(faulty) - n - 1:]))
            ring = self.told(hidden_ring(arena, book), hidden_ring, arena, book)
            self.assertIs(ring is None, least is not None)
            if ring is not None:
                run, other, length = ring
                self.assertGreaterEqual(length, 1)
                faulty = self.watch(arena, book, run, other)
                self.assertGreater(len(run), length)
                self.assertTrue(all(faulty[len(run) - length - 1:]))
                ends = []
                for at in (len(run), len(run) - length):
                    readings = [arena.first] + [step[1] for step in run[:at]]
                    standing = book.run_from(book.start(), readings[:-1])[1]
                    ends.append((run[at - 1][1], run[at - 1][2], other[at - 1][2], standing))
                self.assertEqual(ends[0], ends[1])
            met["zero"] += least == 0
            met["none"] += least is None
            met["some"] += least is not None and least > 0
            met["two"] += least is not None and least > 1
        self.assertGreater(min(met.values()), 3, met)

    def test_free_by_chance(self):
        met = {"zero": 0, "some": 0, "none": 0}
        for chance, arena, plain in list(false_arenas(342, 80)) + list(beating(339, 80)):
            follows, sound = free_doubles(plain)
            least = longest_row(follows, lambda place: not sound[place[0]])
            self.told(least, noticed_free, arena)
            met["zero" if least == 0 else "none" if least is None else "some"] += 1
            if least is not None:
                for _ in range(3):
                    book = chance.machine(2, len(arena.plant.inputs), arena.plant.outputs)
                    told = noticed_within(arena, book)
                    self.assertTrue(told is not None and told <= least)
        self.assertGreater(min(met.values()), 8, met)

    def test_examples(self):
        self.told(None, noticed_free, RESTS)
        self.told(1, noticed_free, TURNS)
        self.told(1, noticed_within, TURNS, DEAF)
        self.told(None, noticed_within, RESTS, DEAF)
        self.told(None, hidden_runs, TURNS, DEAF, 1)
        run, other = hidden_runs(TURNS, DEAF, 0)
        self.assertEqual(([step[1] for step in run], len(other)), ([(0,)], 1))
        self.told(0, noticed_free, Arena(PLANT, 0, 1))
        self.told(0, noticed_within, Arena(PLANT, 0, 1, faults=((0, "late"),)), DEAF)
        self.told(None, hidden_ring, Arena(PLANT, 0, 1), DEAF)
        self.told(None, hidden_runs, Arena(PLANT, 0, 1), DEAF, 0)
        long_run = hidden_runs(RESTS, DEAF, 199)
        self.assertGreaterEqual(len(long_run[0]), 200)

    def test_first_false(self):
        for chance, arena, _ in false_arenas(343, 40, outputs=1):
            for inputs, asked in ((len(arena.plant.inputs), False), (len(arena.plant.inputs) + 1, True)):
                book = chance.machine(2, inputs, 1)
                run = walk(arena, book, [chance.random.randrange(9) for _ in range(8)])
                told = [k + 1 for k, step in enumerate(run) if not arena.sound(step[-1])]
                self.told(told[0] if told else None, first_false, arena, run)
                self.told(told[0] if told else None, first_false, arena, list(run))
        self.told(None, first_false, TURNS, ())

    def test_limit(self):
        def ring(many, tail):
            arrows = tuple((s, "on", s + 1 if s + 1 < many else tail) for s in range(many))
            return Arena(Plant(((many, arrows),), 0, ()), 1, 1)

        def book(many):
            return Machine.of_rows(0, 0, [[((), (s + 1) % many)] for s in range(many)])
        self.told(0, noticed_within, ring(32, 0), book(625))
        self.told(None, hidden_runs, ring(32, 0), book(625), 0)
        self.told(None, hidden_ring, ring(32, 0), book(625))
        for call, args in ((noticed_within, ()), (hidden_runs, (0,)), (hidden_ring, ())):
            self.refused(TooMany, {"limit": 20000}, call, ring(33, 1), book(625), *args)
        self.refused(BadNumber, {"word": "n"}, hidden_runs, ring(33, 1), book(625), -1)
        # Two rings behind a choice: the pairs of the one, of the other, and of both, both ways round.
        for tail in (0, 1):
            one, two = 100, 99
            arrows = [(s, "on", s + 1) for s in range(tail)]
            first, second = tail + 1, tail + 1 + one
            arrows += [(tail, "left", first), (tail, "right", second)]
            arrows += [(first + s, "on", first + (s + 1) % one) for s in range(one)]
            arrows += [(second + s, "on", second + (s + 1) % two) for s in range(two)]
            arena = Arena(Plant(((second + two, tuple(arrows)),), 0, ()), 1, 1)
            if tail == 0:
                self.told(0, noticed_free, arena)
            else:
                self.refused(TooMany, {"limit": 20000}, noticed_free, arena)

    def test_wrong(self):
        wrong = Machine.of_rows(0, 0, [[((), 0)]])
        asked = Machine.of_rows(2, 1, [[((0,), 0)] * 4])
        door = Arena(DOOR, 0, 1)
        for arena, book in ((TURNS, wrong), (door, asked), (door, DEAF)):
            self.refused(OtherShape, {}, noticed_within, arena, book)
            self.refused(OtherShape, {}, hidden_ring, arena, book)
            self.refused(OtherShape, {}, hidden_runs, arena, book, None)
        for n in [-1] + NO_NUMBERS:
            self.refused(BadNumber, {"word": "n"}, hidden_runs, TURNS, DEAF, n)

    def test_largest(self):
        sizes = (4, 3, 2)
        machines = tuple((size, tuple((s, f"c{m}{k}", (s + (1, size - 1)[k]) % size) for s in range(size) for k in (0, 1)))
                         for m, size in enumerate(sizes))
        plant = Plant(machines, 1, [("level", m % 3, (0, 1)) for m in range(6)], drivers=[("c00", 0, 1), ("c10", 0, 0)])
        arena = Arena(plant, 0, 1, faults=((0, "stuck0"), (3, "late")), many=1)
        book = CycleChance(344).machine(40, 6, 1)
        for call, args in ((noticed_within, (arena, book)), (noticed_free, (arena,))):
            try:
                self.assertTrue(call(*args) is None or call(*args) >= 0)
            except TooMany as error:
                self.assertEqual(error.limit, 20000)


class TestLots(Case):
    def test_all(self):
        for chance, arena, plain in false_arenas(345, 60):
            sound = [not any(standing[2]) for standing in plain.standings]
            for _ in range(5):
                lot = tuple(sorted(chance.some(range(len(arena)), 1, 4)))
                self.told(not any(sound[p] for p in lot), all_faulty, arena, lot)
                self.told(all(sound[p] for p in lot), all_sound, arena, list(lot))
        for call in (all_faulty, all_sound):
            for wrong, place in wrong_lots(TURNS):
                self.refused(BadLot, {"place": place}, call, TURNS, wrong)


class TestWatched(Case):
    def alarms(self, arena, plain, book, readings, asked):
        """The answers and alarms, and the lots, word by word."""
        standing, lot, row, told = book.start(), (0,), None, []
        begun = False
        inputs = len(arena.plant.inputs)
        for reading in readings:
            answer, standing = book.step(standing, reading)
            x = tuple(reading[:inputs])
            if not begun and x != arena.first:
                told.append((answer + (0,), (0,), standing, -1))
                continue
            if begun:
                behind = tuple(sorted({q for p in lot for y, q in plain.table[p][arena.rows.index(row)] if y == x}))
                lot = behind if behind else lot
            begun, row = True, answer
            bell = 1 if all(any(plain.standings[p][2]) for p in lot) else 0
            told.append((answer + (bell,), lot, standing, arena.rows.index(row)))
        return told

    def test_by_chance(self):
        met = {"bell": 0, "still": 0, "cannot": 0, "asked": 0, "early": 0}
        for chance, arena, plain in false_arenas(346, 200):
            plant = arena.plant
            asked = plant.outputs > 0 and chance.random.random() < 0.5
            inputs = len(plant.inputs) + (plant.outputs if asked else 0)
            book = chance.machine(3, inputs, plant.outputs)
            watched = Watched(arena, book)
            self.assertEqual(watched.inputs, book.inputs)
            self.assertEqual(watched.outputs, book.outputs + ("z",))
            self.assertEqual(watched.start(), (1, 0, -1, 0))
            for kind in ("run", "any"):
                picks = [chance.random.randrange(50) for _ in range(10)]
                asks = [chance.reading(plant.outputs) for _ in picks]
                run = walk(arena, book, picks, asks=asks)
                readings = [arena.first] + [step[-2] for step in run]
                if kind == "any":
                    readings = [chance.reading(len(plant.inputs)) if chance.random.random() < 0.4 else x for x in readings]
                whole = [x + (y if asked else ()) for x, y in zip(readings, asks + [(0,) * plant.outputs])]
                told = self.alarms(arena, plain, book, whole, asked)
                self.told(tuple(one[0] for one in told), watched.run, whole)
                standing = watched.start()
                for reading, (answer, lot, behind, row) in zip(whole, told):
                    answered, standing = watched.step(standing, list(reading))
                    self.assertEqual((answered, standing), (answer, (len(behind),) + behind + (row,) + lot))
                    self.assertEqual(watched.lot_known(standing), lot)
                bells = [answer[-1] for answer, _, _, _ in told]
                if kind == "run":
                    self.assertEqual(bells, sorted(bells))
                    false = first_false(arena, run)
                    self.assertFalse(any(bells[:false] if false else bells))
                    # The alarm is 1 exactly if no sound run has the same readings and answers.
                    answers = [step[-3] for step in run]
                    for k, bell in enumerate(bells):
                        lot = known(arena, readings[:k + 1], answers[:k])
                        self.assertIs(bell == 1, not any(arena.sound(p) for p in lot))
                    within = noticed_within(arena, book) if not asked else None
                    if within is not None and false is not None and false + within < len(bells):
                        self.assertEqual(bells[false + within], 1)
                met["bell"] += 1 in bells
                met["still"] += 1 not in bells
                met["early"] += told[0][3] == -1
                met["asked"] += asked
            met["cannot"] += 1
        self.assertGreater(min(met.values()), 20, met)

    def test_lot_is_that_of_known(self):
        """The alarm is 1 at a reading exactly if the known lot of the readings and of the rows answered has no sound one."""
        bells = 0
        for chance, arena, _ in false_arenas(347, 100):
            plant = arena.plant
            book = chance.machine(3, len(plant.inputs), plant.outputs)
            for readings in itertools.product([arena.first], *[[x for x in itertools.product((0, 1), repeat=len(
                    plant.inputs))]] * 3):
                rows_told = book.run(readings)
                told = Watched(arena, book).run(readings)
                for k in range(len(readings)):
                    lot = known(arena, readings[:k + 1], rows_told[:k])
                    if not lot:
                        self.assertEqual(told[k][-1] >= told[k - 1][-1], True)
                        break
                    self.assertEqual(told[k], rows_told[k] + (1 if all_faulty(arena, lot) else 0,))
                    bells += told[k][-1]
        self.assertGreater(bells, 20)

    def test_names(self):
        for names, outs, wanted in ((("z",), (), "zz"), (("x",), (), "z"), (("zz",), (), "z")):
            book = Machine(names, outs, [[((), 0)] * 2])
            self.assertEqual(Watched(TURNS, book).outputs, (wanted,))
        three = Plant(((1, ()),), 2, (("level", 0, ()),))
        book = Machine(("zz",), ("z", "zzz"), [[((0, 0), 0)] * 2])
        self.assertEqual(Watched(Arena(three, 0, 1), book).outputs, ("z", "zzz", "zzzz"))

    def test_good_guards_stay_good(self):
        """[157]: the alarm changes no answer; the machine of both, in whatever form, is both."""
        chance, met = CycleChance(348), 0
        for _ in range(60):
            game, _ = chance.lively_game(faults=1, waits=0, inputs=1, outputs=1, ends=0, most_standings=10)
            try:
                table = Table(game)
            except TooMany:
                continue
            if not table.guards:
                continue
            book = machine_of(Drummed(table, [(1,)]))
            asked = machine_of(Freest(table))
            for one in (book, asked):
                watched = Watched(game.arena, one)
                machine = machine_of(watched)
                readings = chance.readings(len(one.inputs), 12)
                self.assertEqual([answer[:-1] for answer in watched.run(readings)], list(one.run(readings)))
                self.assertEqual(machine.run(readings), watched.run(readings))
                if len(machine) <= 40:
                    for form in (rungs_of, sheet_of, chain_of):
                        self.assertEqual(form(machine).run(readings), watched.run(readings))
                    beside = Beside(watched, one)
                    self.assertEqual(len(beside.run([row * 2 for row in readings])), 12)
            self.assertTrue(is_guard(game, book))
            met += 1
        self.assertGreater(met, 10)

    def test_healing(self):
        """[157]: a book that heals with k answers rightly from the (k + 1)-st true reading on."""
        chance, met = CycleChance(349), 0
        for _ in range(160):
            book = chance.machine(3, 1, 1)
            k = healing(book)
            if k is None:
                continue
            right, false = chance.readings(1, 4 + k + 3), chance.readings(1, 4)
            one, other = book.run(right), book.run(false + right[4:])
            self.assertEqual(one[4 + k:], other[4 + k:])
            met += k > 0
        self.assertGreater(met, 5)

    def test_example_and_wrong(self):
        watched = Watched(TURNS, DEAF)
        self.assertEqual((watched.outputs, watched.run([(0,), (0,), (0,), (1,)])), (("z",), ((0,), (0,), (1,), (1,))))
        self.refused(BadRow, {"place": -1}, watched.step, watched.start(), ())
        for book in (Machine.of_rows(0, 0, [[((), 0)]]), Machine.of_rows(1, 1, [[((0,), 0)] * 2])):
            self.refused(OtherShape, {}, Watched, TURNS, book)
        self.assertEqual(judge(Game(TURNS, Wish((), ())), DEAF)[0], "good")


if __name__ == "__main__":
    unittest.main()
