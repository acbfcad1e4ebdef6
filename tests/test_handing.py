"""From guard to guard."""

import unittest

from guardrungs.arenas import Arena, Game
from guardrungs.errors import BadNumber, BadRow, NoGuard, OtherShape, TooMany
from guardrungs.formsof import chain_of, rungs_of, sheet_of
from guardrungs.freest import Freest
from guardrungs.handing import Handed, always_safe, both_always, keeping_pairs, sets_meet
from guardrungs.joining import Beside
from guardrungs.known import after, readings_after
from guardrungs.loops import is_asked_guard
from guardrungs.machines import machine_of
from guardrungs.plants import Plant
from guardrungs.rightness import keeping_from
from guardrungs.tables import Table
from guardrungs.wishes import Wish
from tests.checks import NO_NUMBERS, Case
from tests.plain import rows
from tests.plaincycles import CycleChance
from tests.test_tables import DOOR, two_lines

PLANT = Plant(((3, ((0, "a", 1), (0, "b", 2))),), 1, (), drivers=(("a", 0, 1), ("b", 0, 0)))
TURNS = Arena(PLANT, 1, 1)
ONE, TWO = Game(TURNS, Wish((((0, 2),),), ())), Game(TURNS, Wish((((0, 1),),), ()))


def pairs(number, many, both_good=True, **more):
    """Tables of two wishes in one arena, or in two that are told alike."""
    chance, made = CycleChance(number), 0
    while made < many:
        told = dict(inputs=made % 3, outputs=made % 2 + 1, most_standings=8, ends=1, driven=0.9)
        told.update(more)
        game, _ = chance.lively_game(**told)
        arena = game.arena
        other_wish = Wish(chance.lot(arena.plant, 0, 1), [chance.lot(arena.plant, 1)] * chance.random.randint(0, 1))
        same = arena
        if chance.random.random() < 0.5:
            plant = Plant(list(arena.plant.machines), arena.plant.outputs, list(arena.plant.inputs),
                          drivers=list(arena.plant.drivers))
            same = Arena(plant, arena.fewest, arena.most, waits=list(arena.waits), faults=list(arena.faults), many=arena.many)
        try:
            table, other = Table(game), Table(Game(same, other_wish))
        except TooMany:
            continue
        if (table.guards and other.guards) or not both_good:
            made += 1
            yield chance, table, other


class TestTables(Case):
    def behind(self, table, lot, row):
        arena = table.game.arena
        return [after(arena, lot, row, x) for x in readings_after(arena, lot, row)]

    def test_by_chance(self):
        met = {"yes": 0, "no": 0, "safe": 0, "unsafe": 0, "none": 0}
        for chance, table, other in pairs(431, 150, False):
            told = tuple(((lot, row), all(behind in other for behind in self.behind(table, lot, row)))
                         for lot in table.lots for row in table.let_at(lot))
            self.assertEqual(told, tuple(sorted(told)))
            self.told(told, keeping_pairs, table, other)
            self.told(tuple(lot for lot in table.lots if lot in other.lots), sets_meet, table, other)
            met["yes"] += any(yes for _, yes in told)
            met["no"] += any(not yes for _, yes in told)
            if not table.guards:
                self.refused(NoGuard, {}, always_safe, table, other)
                met["none"] += 1
                continue
            come, left = set(), [(0,)]
            for lot in left:
                for row in table.let_at(lot):
                    new = [behind for behind in self.behind(table, lot, row) if behind not in come]
                    come |= set(new)
                    left.extend(new)
            safe = all(lot in other for lot in come)
            self.told(safe, always_safe, table, other)
            met["safe" if safe else "unsafe"] += 1
            # Each pair that comes is a keeping pair exactly if they are.
            freest_pairs = [(lot, row) for lot in {(0,)} | come for row in table.let_at(lot)]
            self.assertIs(safe, all(dict(told)[pair] for pair in freest_pairs))
            joined = both_always(table.game, other.game)
            self.assertEqual(joined.game.wish.never, table.game.wish.never + other.game.wish.never)
            self.assertEqual(joined.game.wish.ends, table.game.wish.ends + other.game.wish.ends)
            for lot in joined.lots:
                self.assertIn(lot, table)
                self.assertIn(lot, other)
                for row in joined.let_at(lot):
                    self.assertTrue(row in table.let_at(lot) and row in other.let_at(lot))
            if joined.guards:
                self.assertTrue(always_safe(joined, table) and always_safe(joined, other))
        self.assertGreater(min(met.values()), 10, met)

    def test_example(self):
        one, two = Table(ONE), Table(TWO)
        self.told(((0,),), sets_meet, one, two)
        self.told(False, always_safe, one, two)
        self.told((((0,), (1,)), False), lambda: keeping_pairs(one, two)[0])
        self.assertIs(both_always(ONE, TWO).guards, False)

    def test_other_shape(self):
        table = Table(ONE)
        arenas = [Arena(PLANT, 0, 1), Arena(PLANT, 1, 2), Arena(PLANT, 1, None),
                  Arena(PLANT, 1, 1, waits=(((), (), 1),)), Arena(PLANT, 1, 1, many=1),
                  Arena(Plant(PLANT.machines, 1, (), drivers=PLANT.drivers[:1]), 1, 1),
                  Arena(Plant(PLANT.machines, 2, (), drivers=PLANT.drivers), 1, 1),
                  Arena(Plant(PLANT.machines, 1, (("level", 0, ()),), drivers=PLANT.drivers), 1, 1),
                  Arena(Plant(((4, PLANT.machines[0][1]),), 1, (), drivers=PLANT.drivers), 1, 1)]
        for arena in arenas:
            game = Game(arena, Wish((), ()))
            other = Table(game)
            for call in (keeping_pairs, always_safe, sets_meet):
                self.refused(OtherShape, {}, call, table, other)
                self.refused(OtherShape, {}, call, other, table)
            self.refused(OtherShape, {}, both_always, ONE, game)
            with self.assertRaises(OtherShape):
                Handed(table, other, since=0)
            none = Table(Game(arena, Wish(((),), ())))
            self.refused(NoGuard, {}, always_safe, none, table)
            for first, second in ((none, table), (table, none)):
                with self.assertRaises(NoGuard):
                    Handed(first, second, since=0)
        many = Arena(two_lines(), 1, 1)
        self.refused(TooMany, {"limit": 600}, both_always, Game(many, Wish((), ())), Game(many, Wish((), ())))


class TestHanded(Case):
    def walk(self, chance, table, other, book, since):
        """One run under any asks, with readings that cannot be, by the words of [188]."""
        arena = table.game.arena
        standing, lot, row, over, p, begun = book.start(), (), None, False, 0, False
        x = arena.first
        told = {"over": False, "first": None}
        for number in range(1, 12):
            ask = chance.reading(arena.plant.outputs)
            reading = chance.reading(len(arena.plant.inputs)) if chance.random.random() < 0.25 else x
            answer, standing = book.step(standing, list(reading + ask))
            now = other if over else table
            if not begun and reading != arena.first:
                wanted = table.let_at((0,))[0]
            else:
                behind = (0,) if not begun else after(arena, lot, row, reading)
                if behind:
                    begun, lot = True, behind
                    wanted = ask if ask in now.let_at(lot) else now.let_at(lot)[0]
                else:
                    wanted = row
                row = wanted
            self.assertEqual(answer, wanted)
            if not over and begun and number >= since:
                over = all(after(arena, lot, row, y) in other for y in readings_after(arena, lot, row))
                if over:
                    told["over"], told["first"] = True, number
            self.assertIs(book.changed(standing), over)
            self.assertEqual(book.lot_in(standing), lot)
            if begun and reading == x:
                x, p = chance.pick(arena.moves(p, answer))
        return told

    def test_by_chance(self):
        met = {"over": 0, "not": 0, "late": 0}
        for chance, table, other in pairs(432, 150):
            for since in (1, 3, 60):
                book = Handed(table, other, since=since)
                freest = Freest(table)
                self.assertEqual((book.inputs, book.outputs), (freest.inputs, freest.outputs))
                self.assertEqual(book.lot_in(book.start()), ())
                self.assertIs(book.changed(book.start()), False)
                for _ in range(3):
                    told = self.walk(chance, table, other, book, since)
                    met["over" if told["over"] else "not"] += 1
                    met["late"] += told["over"] and told["first"] > since
        self.assertGreater(min(met.values()), 10, met)

    def test_good_behind_the_change(self):
        """[188]: a keeping pair is one exactly if a guard that takes over is good for the second wish."""
        met = {True: 0, False: 0}
        for chance, table, other in pairs(433, 80, outputs=1, faults=0.2):
            arena = table.game.arena
            freest = machine_of(Freest(other))
            codes = {}
            left = [((-1, -1), 0)]
            for standing, s in left:
                codes[standing] = s
                for number, reading in enumerate(rows(len(freest.inputs))):
                    pair = (Freest(other).step(standing, reading)[1], freest.rows[s][number][1])
                    if pair not in left:
                        left.append(pair)
            for (lot, row), keeping in keeping_pairs(table, other):
                behinds = [after(arena, lot, row, x) for x in readings_after(arena, lot, row)]
                met[keeping] += 1
                if not keeping:
                    # Some lot behind has no row by which a guard could be good.
                    self.assertTrue(any(behind not in other for behind in behinds))
            joined = both_always(table.game, other.game)
            if joined.guards:
                for target in (table, other):
                    book = Handed(joined, target, since=2)
                    self.assertTrue(is_asked_guard(target.game, book))
        self.assertGreater(min(met.values()), 10, met)

    def test_plain_loops(self):
        """Without outputs a freest guard is plain; the one that takes over goes on with a good loop."""
        for number in range(20):
            chance = CycleChance(500 + number)
            game, _ = chance.lively_game(outputs=0, inputs=1, waits=0, faults=0, ends=1, most_standings=6)
            table = Table(game)
            if not table.guards:
                continue
            book = Handed(table, table, since=1)
            machine = machine_of(book)
            self.assertTrue(keeping_from(game, machine, 0, game.arena.first, 0))

    def test_forms_and_limits(self):
        done = 0
        for chance, table, other in pairs(434, 12, outputs=1, inputs=1, most_standings=5):
            book = Handed(table, other, since=2)
            machine = machine_of(book)
            readings = chance.readings(len(book.inputs), 12)
            self.assertEqual(machine.run(readings), book.run(readings))
            if len(machine) <= 50:
                for form in (rungs_of, sheet_of, chain_of):
                    self.assertEqual(form(machine).run(readings), book.run(readings))
                done += 1
            both = Beside(book, machine)
            self.assertEqual(both.run([x + x for x in readings]), tuple(a + a for a in book.run(readings)))
        self.assertGreater(done, 3)

    def test_wrong(self):
        table = Table(Game(Arena(DOOR, 0, 1), Wish((), ())))
        for wrong in [0, 61, -1] + NO_NUMBERS:
            self.refused(BadNumber, {"word": "since"}, Handed, table, table, since=wrong)
        book = Handed(table, table, since=60)
        for reading in [(0,), (0, 0, 0), None]:
            self.refused(BadRow, {"place": -1}, book.step, book.start(), reading)
        standing = book.start()
        for number in range(1, 62):
            _, standing = book.step(standing, (0, 0))
            self.assertIs(book.changed(standing), number >= 60)
        # Ahead of the arena's first reading answers count, but there is no lot and no change.
        early = Handed(table, table, since=1)
        _, standing = early.step(early.start(), (1, 0))
        self.assertEqual((early.changed(standing), early.lot_in(standing)), (False, ()))
        _, standing = early.step(standing, (0, 0))
        self.assertEqual((early.changed(standing), early.lot_in(standing)), (True, (0,)))


if __name__ == "__main__":
    unittest.main()
