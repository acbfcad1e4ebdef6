"""Eyes, deaf books, games with other faults."""

import itertools
import unittest

from guardrungs.arenas import Arena, Game
from guardrungs.drums import Drummed, drum_of
from guardrungs.errors import BadNumber, BadPlant, BadRow, OtherShape, TooMany
from guardrungs.eyes import blind_to, deaf, enough, least_eyes, with_eyes, with_faults
from guardrungs.formsof import rungs_of
from guardrungs.hangs import hanging
from guardrungs.joining import Beside
from guardrungs.loops import is_guard
from guardrungs.machines import Machine, machine_of
from guardrungs.plants import Plant
from guardrungs.plays import is_play, play_of
from guardrungs.tables import Table
from guardrungs.wishes import Wish
from tests.checks import NO_NUMBERS, Case
from tests.plaincycles import CycleChance
from tests.test_tables import DOOR, two_lines

INPUTS = (("level", 0, (1,)), ("mark", ("b",)), ("level", 0, (0,)))
PLANT = Plant(((3, ((0, "a", 1), (1, "a", 2), (1, "b", 0))),), 1, INPUTS, drivers=(("a", 0, 1),))
GAME = Game(Arena(PLANT, 0, 1), Wish((((0, 2),),), ((((0, 1),),),)))
WRONG = [None, 3, "01", {0: 1}, (1, 0), (0, 0), (-1,), (0, 3), [0, 1, 2, 3]] + [(0, one) for one in NO_NUMBERS]


class TestPlaces(Case):
    def test_blind(self):
        for places in ((), (0,), [1, 2], (0, 1, 2)):
            plant = blind_to(PLANT, places)
            self.assertEqual(plant.inputs, tuple(INPUTS[k] for k in places))
            for name in ("machines", "outputs", "drivers", "changes"):
                self.assertEqual(getattr(plant, name), getattr(PLANT, name))
            wait = ((((0, 1),),), (((0, 0),),), 2)
            game = Game(Arena(PLANT, 0, 3, waits=(wait,), many=2), GAME.wish)
            seen = with_eyes(game, places)
            arena = seen.arena
            self.assertEqual((arena.fewest, arena.most, arena.waits, arena.faults, arena.many), (0, 3, (wait,), (), 0))
            self.assertEqual((arena.plant.inputs, seen.wish.never, seen.wish.ends),
                             (plant.inputs, game.wish.never, game.wish.ends))
        for wrong in WRONG:
            for call in (with_eyes, enough):
                self.refused(BadNumber, {"word": "places"}, call, GAME, wrong)
            self.refused(BadNumber, {"word": "places"}, blind_to, PLANT, wrong)
        false = Game(Arena(PLANT, 0, 1, faults=((0, "late"),)), GAME.wish)
        for call in (with_eyes, enough):
            self.refused(OtherShape, {}, call, false, None)
        self.refused(OtherShape, {}, least_eyes, false)

    def test_with_faults(self):
        wait = ((((0, 1),),), (((0, 0),),), 2)
        game = Game(Arena(PLANT, 1, 3, waits=[wait], faults=((0, "late"),), many=1), GAME.wish)
        for faults, many in (((), 0), ([(1, "stuck0"), (2, "late")], 3), (((0, "stuck1"),), 0)):
            arena = with_faults(game, faults, many).arena
            self.assertEqual((arena.fewest, arena.most, arena.waits, arena.faults, arena.many),
                             (1, 3, (wait,), tuple(faults), many))
            self.assertIs(with_faults(game, faults, many).wish, game.wish)
        self.refused(BadPlant, {"word": "fault", "place": 0}, with_faults, game, ((3, "late"),), 9)
        self.refused(BadPlant, {"word": "fault", "place": -1}, with_faults, game, None, 1)
        for wrong in [4, -1] + NO_NUMBERS:
            self.refused(BadNumber, {"word": "many"}, with_faults, game, (), wrong)
        big = Plant(((300, tuple((s, "a", (s + 1) % 300) for s in range(300))),), 0, (("level", 0, (0,)),))
        more = Game(Arena(big, 0, 1), Wish((), ()))
        self.refused(TooMany, {"limit": 600}, with_faults, more, ((0, "stuck0"), (0, "stuck1")), 1)
        self.assertEqual(len(with_faults(more, ((0, "stuck0"),), 1).arena), 600)


def hidden(chance, many):
    """A game whose guard must know which of some standings came: at each another row of outputs is bad."""
    arrows = [(0, f"go{s}", s) for s in (1, 2, 3)] + [(s, "back", 0) for s in (1, 2, 3)]
    bits = [chance.reading(2) for _ in range(3)]
    for s, row in enumerate(bits):
        arrows.append((s + 1, f"bad{s}", 4))
    drivers = [(f"bad{s}", s % 2, row[0]) for s, row in enumerate(bits)]
    inputs = []
    for _ in range(many):
        if chance.random.random() < 0.8:
            inputs.append(("level", 0, tuple(sorted(chance.some(range(4), 1, 3)))))
        else:
            inputs.append(("mark", chance.some(("go1", "go2", "go3", "back"), 1, 3)))
    plant = Plant(((5, tuple(arrows)),), 2, inputs, drivers=drivers)
    return Game(Arena(plant, 0, 1), Wish((((0, 4),),), chance.pick(((), ((((0, 0),),),)))))


class TestEnough(Case):
    def test_example(self):
        self.told(((0,), (2,)), least_eyes, GAME)
        self.told(False, enough, GAME, (1,))
        self.told(True, enough, GAME, [0, 1])
        self.told(False, enough, GAME, ())
        self.told(((),), least_eyes, Game(GAME.arena, Wish((), ())))
        self.told((), least_eyes, Game(GAME.arena, Wish(((),), ())))
        still = Game(Arena(Plant(((1, ()),), 0, ()), 0, 0), Wish((), ()))
        self.told(((),), least_eyes, still)
        self.told(True, enough, still, ())

    def test_by_chance(self):
        chance, met = CycleChance(331), {"none": 0, "some": 0, "two": 0, "all": 0}
        for number in range(60):
            many = number % 5
            game = hidden(chance, many) if number % 3 else chance.lively_game(faults=0, inputs=many)[0]
            told = self.told(least_eyes(game), least_eyes, game)
            lots = [lot for size in range(many + 1) for lot in itertools.combinations(range(many), size)]
            good = [lot for lot in lots if Table(with_eyes(game, lot)).guards]
            for lot in lots:
                self.told(lot in good, enough, game, lot)
                # A lot is enough exactly if it holds one of the least eyes.
                self.assertIs(lot in good, any(set(eyes) <= set(lot) for eyes in told))
            least = [lot for lot in good if not any(set(other) < set(lot) for other in good)]
            self.assertEqual(told, tuple(sorted(least)))
            for eyes in told:
                seen = with_eyes(game, eyes)
                book = deaf(Drummed(Table(seen), drum_of(Table(seen))), many, eyes)
                self.assertTrue(is_guard(game, book))
                if len(machine_of(book)) < 60:
                    for row in hanging(machine_of(book)):
                        self.assertTrue(set(row) <= set(eyes))
                for place in eyes:
                    less = with_eyes(game, [other for other in eyes if other != place])
                    self.assertTrue(is_play(less, play_of(less)))
            met["none"] += not told
            met["some"] += told not in ((), ((),))
            met["two"] += len(told) > 1
            met["all"] += told == ((),)
        self.assertGreater(min(met.values()), 1, met)

    def test_less_faults(self):
        """[153]: what is good with so many faults is good with fewer."""
        chance, met = CycleChance(332), 0
        for _ in range(80):
            game, _ = chance.lively_game(faults=0, inputs=2, outputs=1, most_standings=6)
            faults = [(0, "stuck0"), (1, "late"), (1, "stuck1")]
            try:
                games = [with_faults(game, faults, many) for many in range(3)]
                tables = [Table(one) for one in games]
                drum = drum_of(tables[2]) if tables[2].guards else None
            except TooMany:
                continue
            guards = [table.guards for table in tables]
            self.assertEqual(guards, sorted(guards, reverse=True))
            if guards[2]:
                book = Drummed(tables[2], drum)
                for one in games:
                    self.assertTrue(is_guard(one, book))
                met += 1
        self.assertGreater(met, 10)

    def test_limit(self):
        many = Game(Arena(two_lines(), 1, 1), Wish((), ()))
        self.refused(TooMany, {"limit": 600}, enough, many, ())
        self.refused(TooMany, {"limit": 600}, least_eyes, many)
        # All places together tell more, but the lot of none is looked at, too.
        told = two_lines()
        sees = Plant(told.machines, 2, [("level", 0, (s,)) for s in range(30)], drivers=told.drivers)
        game = Game(Arena(sees, 1, 1), Wish((), ()))
        self.told(True, enough, game, tuple(range(30)))
        self.refused(TooMany, {"limit": 600}, least_eyes, game)


class TestDeaf(Case):
    def test_by_chance(self):
        chance = CycleChance(333)
        for number in range(40):
            inputs, more = number % 3, chance.random.randint(0, 3)
            book = chance.rungs(inputs=inputs) if number % 2 else chance.machine(4, inputs, 2)
            places = sorted(chance.random.sample(range(inputs + more), inputs))
            told = deaf(book, inputs + more, places)
            self.assertEqual(told.inputs, tuple(f"n{k}" for k in range(inputs + more)))
            self.assertEqual(told.outputs, tuple("a." + name for name in book.outputs))
            readings = chance.readings(inputs + more, 12)
            picked = [[row[k] for k in places] for row in readings]
            self.told(book.run(picked), told.run, readings)
            self.assertEqual(told.start(), book.start())
            self.assertEqual(told.run_from(told.start(), readings), book.run_from(book.start(), picked))
            self.assertEqual(machine_of(told).run(readings), book.run(picked))
            self.assertEqual(rungs_of(machine_of(told)).run(readings), book.run(picked))
            self.assertEqual(Beside(told, book).run([a + tuple(b) for a, b in zip(readings, picked)]),
                             tuple(x + x for x in book.run(picked)))
            self.refused(BadRow, {"place": -1}, told.step, told.start(), (0,) * (inputs + more + 1))

    def test_wrong(self):
        book = Machine.of_rows(2, 1, [[((0,), 0)] * 4])
        for wrong in [-1] + NO_NUMBERS:
            self.refused(BadNumber, {"word": "many"}, deaf, book, wrong, None)
        for wrong in WRONG + [(), (0,), (0, 1, 2)]:
            self.refused(BadNumber, {"word": "places"}, deaf, book, 3, wrong)
        self.refused(BadNumber, {"word": "places"}, deaf, book, 0, ())
        self.assertEqual(deaf(Machine.of_rows(0, 0, [[((), 0)]]), 0, ()).run([()]), ((),))
        self.assertEqual(deaf(book, 12, [10, 11]).run([(0,) * 12]), ((0,),))

    def test_largest(self):
        sizes = (6, 5, 5, 4)
        machines = tuple((size, tuple((s, f"c{m}{k}", (s + (1, size - 1)[k]) % size) for s in range(size) for k in (0, 1)))
                         for m, size in enumerate(sizes))
        plant = Plant(machines, 4, [("level", m % 4, (m % 3,)) for m in range(6)],
                      drivers=[(f"c{m}{k}", m, k) for m in range(4) for k in (0, 1)])
        game = Game(Arena(plant, 1, 1), Wish([((0, 3), (1, 3))], ()))
        try:
            self.assertIs(enough(game, range(6) and (0, 1, 2, 3, 4, 5)), True)
        except TooMany as error:
            self.assertEqual(error.limit, 600)
        self.assertTrue(is_guard(Game(Arena(DOOR, 0, 1), Wish((), ())), deaf(Machine.of_rows(0, 1, [[((0,), 0)]]), 1, ())))


if __name__ == "__main__":
    unittest.main()
