"""Free plants, guards joined by "and", joined games."""

import unittest

from guardrungs.arenas import Arena, Game
from guardrungs.errors import BadLot, BadRow, OtherShape, TooMany
from guardrungs.formsof import chain_of, rungs_of, sheet_of
from guardrungs.freeplants import Both, is_free, safe, top_row
from guardrungs.freest import Freest, lets
from guardrungs.joined import joined_books, joined_game, split_lot
from guardrungs.joining import Beside
from guardrungs.known import lots_reached
from guardrungs.loops import is_asked_guard, is_guard, judge
from guardrungs.machines import Machine, machine_of
from guardrungs.plants import Plant
from guardrungs.tables import Table
from guardrungs.wishes import Wish, joined_wish
from tests.checks import Case
from tests.plaincycles import CycleChance
from tests.plainplants import is_in, led, possible
from tests.test_tables import DOOR, wrong_lots

FREE = {"bit": 1, "waits": 0, "fallings": ((0, 1), (0, 2), (1, 1), (0, None), (2, 2), (1, 3), (2, None))}


def is_safe(plant, never, standing):
    """By following free changes."""
    left = [standing]
    for p in left:
        if is_in(never, p):
            return False
        left.extend(q for q in (led(plant, p, c) for c in possible(plant, p, (0,) * plant.outputs)) if q not in left)
    return True


def free_games(number, many, **more):
    chance = CycleChance(number)
    for at in range(many):
        told = dict(FREE, ends=0, machines=at % 2 + 1, outputs=at % 3, inputs=at % 4)
        told.update(more)
        yield chance, chance.lively_game(**told)


class TestFree(Case):
    def test_is_free(self):
        wish = Wish((((0, 1),),), ())
        self.told(True, is_free, Game(Arena(DOOR, 0, 1), wish))
        self.told(True, is_free, Game(Arena(DOOR, 1, None), wish))
        self.told(True, is_free, Game(Arena(DOOR, 24, 24, faults=((0, "late"),), many=1), wish))
        self.told(True, is_free, Game(Arena(Plant(((1, ()),), 0, ()), 0, 1), Wish((), ())))
        wait = ((((),), (), 3),)
        shut = Plant(DOOR.machines, 1, (), drivers=(("a", 0, 1), ("b", 0, 0)))
        for game in (Game(Arena(DOOR, 0, 0), wish), Game(Arena(DOOR, 0, 1), Wish((), ((),))),
                     Game(Arena(DOOR, 0, 1, waits=wait), wish), Game(Arena(shut, 0, 1), wish)):
            self.told(False, is_free, game)
            self.refused(OtherShape, {}, safe, game)
            self.refused(OtherShape, {}, top_row, game, None)
        for most in (2, None):
            self.refused(OtherShape, {}, top_row, Game(Arena(DOOR, 0, most), wish), ())

    def test_safe_by_chance(self):
        met = {"in": 0, "out": 0, "cut": 0, "faults": 0}
        for chance, (game, plain) in free_games(311, 250):
            arena, plant = game.arena, game.arena.plant
            told = tuple(p for p, s in enumerate(plain.arena.standings) if is_safe(plant, game.wish.never, s[0]))
            self.told(told, safe, game)
            lots = plain.reached()
            if len(lots) > 60:
                continue
            left, _ = plain.rounds()
            for lot in lots:
                self.assertIs(lot in left, all(p in told for p in lot))
                met["in" if lot in left else "out"] += 1
                if lot not in left:
                    continue
                let = plain.let(left, lot)
                held = tuple(row for r, row in enumerate(arena.rows)
                             if not any(plain.bad[p][r] for p in lot)
                             and all(q in told for p in lot for _, q in plain.arena.table[p][r]))
                self.assertEqual(let, held)
                self.assertIn((0,) * plant.outputs, let)
                for row in let:
                    for other in arena.rows:
                        if all(bit <= top for bit, top in zip(other, row)):
                            self.assertIn(other, let)
                met["cut"] += len(let) < len(arena.rows)
            met["faults"] += arena.many > 0
        self.assertGreater(min(met.values()), 20, met)

    def test_top_rows(self):
        met = {"none": 0, "cut": 0, "not reached": 0}
        for chance, (game, plain) in free_games(312, 250, fallings=((0, 1), (1, 1)), outputs=2):
            arena = game.arena
            good = safe(game)
            lots = lots_reached(arena) if len(arena) < 9 else ((0,),)
            others = [tuple(sorted(chance.some(range(len(arena)), 1, 3))) for _ in range(6)]
            for lot in list(lots) + others:
                told = None
                if all(p in good for p in lot):
                    held = [row for r, row in enumerate(arena.rows) if not any(plain.bad[p][r] for p in lot)
                            and all(q in good for p in lot for _, q in plain.arena.table[p][r])]
                    told = tuple(max(row[k] for row in held) for k in range(2))
                    self.assertEqual(held, [row for row in arena.rows if all(a <= b for a, b in zip(row, told))])
                    met["cut"] += told != (1, 1)
                met["none"] += told is None
                met["not reached"] += lot not in lots
                self.told(told, top_row, game, lot)
                self.told(told, top_row, game, list(lot))
        self.assertGreater(min(met.values()), 20, met)
        game = Game(Arena(DOOR, 0, 1), Wish((((0, 1),),), ()))
        self.told((0,), top_row, game, (0,))
        self.told(None, top_row, game, (0, 1))
        for wrong, place in wrong_lots(game.arena):
            self.refused(BadLot, {"place": place}, top_row, game, wrong)

    def test_largest(self):
        sizes = (6, 5, 5, 4)
        machines = tuple((size, tuple((s, f"c{m}{k}", (s + (1, size - 1)[k]) % size) for s in range(size) for k in (0, 1)))
                         for m, size in enumerate(sizes))
        plant = Plant(machines, 4, (("level", 0, (0,)),), drivers=[(f"c{m}0", m, 1) for m in range(4)])
        wish = Wish([((0, 3),), ((1, 2), (2, 2)), ((3, 3),), ((0, 1), (1, 1)), ((2, 4),), ((2, 1), (3, 1))], ())
        game = Game(Arena(plant, 0, 1), wish)
        self.assertEqual(len(safe(game)), len([s for s in game.arena.standings if is_safe(plant, wish.never, s[0])]))
        self.assertEqual(len(top_row(game, (0,)) or (0,) * 4), 4)


class TestBoth(Case):
    def test_by_chance(self):
        chance = CycleChance(313)
        for _ in range(60):
            inputs, outputs = chance.random.randint(0, 2), chance.random.randint(0, 3)
            one, two = chance.machine(4, inputs, outputs), chance.rungs(inputs=inputs, outputs=outputs)
            book = Both(two, one)
            self.assertEqual((book.inputs, book.outputs), (two.inputs, two.outputs))
            self.assertEqual(book.start(), (len(two.start()),) + two.start() + one.start())
            readings = chance.readings(inputs, 12)
            answers = tuple(tuple(a & b for a, b in zip(x, y)) for x, y in zip(one.run(readings), two.run(readings)))
            self.told(answers, book.run, readings)
            behind = two.run_from(two.start(), readings)[1], one.run_from(one.start(), readings)[1]
            self.assertEqual(book.run_from(book.start(), readings)[1], (len(behind[0]),) + behind[0] + behind[1])
            told, middle = book.run_from(book.start(), readings[:5])
            self.assertEqual(told + book.run_from(middle, readings[5:])[0], answers)
            machine = machine_of(book)
            self.assertEqual(machine.run(readings), answers)
            if len(machine) < 60:
                for form in (rungs_of, sheet_of, chain_of):
                    self.assertEqual(form(machine).run(readings), answers)
            self.assertEqual(Beside(book, one).run([r + r for r in readings]),
                             tuple(a + b for a, b in zip(answers, one.run(readings))))
            self.refused(BadRow, {"place": -1}, book.step, book.start(), (0,) * (inputs + 1))

    def test_other_shape(self):
        one = Machine.of_rows(1, 1, [[((0,), 0)] * 2])
        for wrong in (Machine.of_rows(0, 1, [[((0,), 0)]]), Machine.of_rows(1, 0, [[((), 0)] * 2])):
            self.refused(OtherShape, {}, Both, one, wrong)
            self.refused(OtherShape, {}, Both, wrong, one)

    def test_two_wishes(self):
        """[134]: freest guards joined by "and" are good for both wishes, and let just what is let for both."""
        chance, met = CycleChance(314), {"good": 0, "none": 0, "let": 0, "not": 0}
        for number in range(150):
            told = dict(FREE, fallings=((0, 1), (0, 2), (0, None)), outputs=2, inputs=number % 3, ends=0, most_standings=10)
            game, _ = chance.lively_game(**told)
            arena = game.arena
            wishes = [Wish(chance.lot(arena.plant, 0, 1), ()) for _ in range(2)]
            if len(lots_reached(arena)) > 80:
                continue
            one, two = [Table(Game(arena, wish)) for wish in wishes]
            both = Game(arena, joined_wish(wishes[0], wishes[1]))
            table = Table(both)
            self.assertIs(table.guards, one.guards and two.guards)
            met["good" if table.guards else "none"] += 1
            if not table.guards:
                continue
            book = Both(Freest(one), Freest(two))
            self.assertTrue(is_asked_guard(both, book))
            readings, written, p = [arena.first], [], 0
            for _ in range(6):
                written.append(chance.pick(arena.rows))
                let = lets(table, readings, written)
                self.assertIs(let, lets(one, readings, written) and lets(two, readings, written))
                met["let" if let else "not"] += 1
                if let:
                    self.assertEqual(book.run([x + y for x, y in zip(readings, written)]), tuple(written))
                reading, p = chance.pick(arena.moves(p, written[-1]))
                readings.append(reading)
            plain = [machine_of(plain_guard(table)) for table in (one, two)]
            self.assertTrue(is_guard(both, Both(plain[0], plain[1])))
        self.assertGreater(min(met.values()), 15, met)


def plain_guard(table):
    """A good plain guard of a game without ends: the freest one, asked the row of ones for ever."""
    from guardrungs.drums import Drummed
    return Drummed(table, [(1,) * table.game.arena.plant.outputs])


class TestJoined(Case):
    def pair(self, chance, **more):
        told = dict(waits=0, faults=0, fallings=((0, None),), size=2, changes=2, most_standings=4, inputs=1)
        told.update(more)
        return chance.lively_game(**told)[0], chance.lively_game(**told)[0]

    def test_by_chance(self):
        chance, met = CycleChance(315), {"in": 0, "out": 0, "none": 0}
        for number in range(60):
            game, other = self.pair(chance, inputs=number % 3, ends=number % 2)
            joined = joined_game(game, other)
            plant = game.arena.plant.joined(other.arena.plant)
            for name in ("machines", "outputs", "inputs", "drivers"):
                self.assertEqual(getattr(joined.arena.plant, name), getattr(plant, name))
            self.assertEqual((joined.arena.fewest, joined.arena.most, joined.arena.waits, joined.arena.faults),
                             (0, None, (), ()))
            many = len(game.arena.plant.machines)
            self.assertEqual(joined.wish.never, game.wish.never + tuple(
                tuple((m + many, s) for m, s in pattern) for pattern in other.wish.never))
            self.assertEqual(len(joined.wish.ends), len(game.wish.ends) + len(other.wish.ends))
            tables = [Table(one) for one in (game, other, joined)]
            places = [{one.arena.plant_standing(p): p for p in range(len(one.arena))} for one in (game, other)]
            reached = [lots_reached(one.arena) for one in (game, other)]
            for lot in lots_reached(joined.arena):
                standings = [joined.arena.plant_standing(p) for p in lot]
                first = tuple(sorted({places[0][s[:many]] for s in standings}))
                second = tuple(sorted({places[1][s[many:]] for s in standings}))
                self.told((first, second), split_lot, game, other, joined, lot)
                self.assertEqual(len(first) * len(second), len(lot))
                self.assertIn(first, reached[0])
                self.assertIn(second, reached[1])
                self.assertIs(lot in tables[2], first in tables[0] and second in tables[1])
                if lot in tables[2]:
                    let = tuple(y + z for y in tables[0].let_at(first) for z in tables[1].let_at(second))
                    self.assertEqual(tables[2].let_at(lot), let)
                met["in" if lot in tables[2] else "out"] += 1
            for _ in range(8):
                lot = tuple(sorted(chance.some(range(len(joined.arena)), 1, 4)))
                parts = [joined.arena.plant_standing(p) for p in lot]
                first, second = {s[:many] for s in parts}, {s[many:] for s in parts}
                wanted = None
                if {a + b for a in first for b in second} == set(parts):
                    wanted = (tuple(sorted(places[0][a] for a in first)), tuple(sorted(places[1][b] for b in second)))
                self.told(wanted, split_lot, game, other, joined, list(lot))
                met["none"] += wanted is None
        self.assertGreater(min(met.values()), 10, met)

    def test_books(self):
        chance, asked = CycleChance(316), 0
        for number in range(40):
            game, other = self.pair(chance, inputs=number % 3, ends=0)
            one, two, joined = Table(game), Table(other), joined_game(game, other)
            table = Table(joined)
            if not table.guards:
                continue
            inputs, outputs = [len(g.arena.plant.inputs) for g in (game, other)], 1
            both = joined_books(Freest(one), Freest(two), game, other)
            self.assertEqual((len(both.inputs), len(both.outputs)), (sum(inputs) + 2 * outputs, 2))
            self.assertTrue(is_asked_guard(joined, both))
            p, reading, first, second = 0, joined.arena.first, Freest(one), Freest(two)
            whole, standing, kept = both.start(), both.start(), [first.start(), second.start()]
            readings, written = [], []
            for _ in range(8):
                ask = chance.reading(2)
                answer, standing = both.step(standing, reading + ask)
                x, y = reading[:inputs[0]], reading[inputs[0]:]
                told, kept[0] = first.step(kept[0], x + ask[:1])
                more, kept[1] = second.step(kept[1], y + ask[1:])
                self.assertEqual(answer, told + more)
                readings.append(reading)
                written.append(answer)
                self.assertTrue(lets(table, readings, written))
                self.assertIs(answer == ask, lets(table, readings, written[:-1] + [ask]))
                reading, p = chance.pick(joined.arena.moves(p, answer))
                asked += 1
            self.assertEqual(whole, both.start())
            plain = [plain_guard(told) for told in (one, two)]
            both = joined_books(plain[0], plain[1], game, other)
            self.assertEqual(len(both.inputs), sum(inputs))
            self.assertTrue(is_guard(joined, both))
        self.assertGreater(asked, 40)

    def test_which_way(self):
        still = Plant(((1, ()),), 0, (("level", 0, (0,)),))
        none, door = Game(Arena(still, 0, None), Wish((), ())), Game(Arena(DOOR, 0, None), Wish((), ()))
        neither = Machine.of_rows(1, 0, [[((), 0)] * 2])
        asked = Machine.of_rows(2, 1, [[((k & 1,), 0) for k in range(4)]])
        plain = Machine.of_rows(1, 1, [[((k,), 0) for k in range(2)]])
        # A book that fits both ways counts as plain, but as asked beside one that fits asked alone.
        both = joined_books(neither, asked, none, door)
        self.assertEqual(both.run([(1, 0, 1), (0, 1, 0)]), ((1,), (0,)))
        self.assertEqual(joined_books(asked, neither, door, none).run([(0, 1, 1), (1, 1, 0)]), ((1,), (0,)))
        self.assertEqual(joined_books(neither, plain, none, door).run([(1, 0), (0, 1)]), ((0,), (1,)))
        # Readings of the first, of the second, asks of the first, of the second.
        self.assertEqual(joined_books(asked, asked, door, door).run([(0, 0, 0, 1), (0, 1, 1, 0)]), ((0, 1), (1, 0)))
        wrong = Machine.of_rows(3, 1, [[((0,), 0)] * 8])
        for first, second in ((plain, asked), (asked, plain), (wrong, plain), (plain, wrong), (wrong, wrong)):
            self.refused(OtherShape, {}, joined_books, first, second, door, door)
        big = Machine.of_rows(6, 0, [[((), 0)] * 64])
        six = Game(Arena(Plant(((1, ()),), 0, (("level", 0, ()),) * 6), 0, None), Wish((), ()))
        self.assertEqual(joined_books(big, big, six, six).run([(0,) * 12]), ((),))

    def test_wrong(self):
        door = Game(Arena(DOOR, 0, None), Wish((), ()))
        for arena in (Arena(DOOR, 0, 1), Arena(DOOR, 1, None), Arena(DOOR, 0, None, waits=((((),), (), 1),)),
                      Arena(DOOR, 0, None, faults=((0, "late"),))):
            self.refused(OtherShape, {}, joined_game, Game(arena, door.wish), door)
            self.refused(OtherShape, {}, joined_game, door, Game(arena, door.wish))
        joined = joined_game(door, door)
        for wrong, place in wrong_lots(joined.arena):
            self.refused(BadLot, {"place": place}, split_lot, door, door, joined, wrong)
        line = Plant(((25, tuple((s, "a", (s + 1) % 25) for s in range(25))),), 0, ())
        small = Plant(((24, tuple((s, "a", (s + 1) % 24) for s in range(24))),), 0, ())
        one, two = Game(Arena(line, 0, None), Wish((), ())), Game(Arena(small, 0, None), Wish((), ()))
        self.assertEqual(len(joined_game(one, two).arena), 600)
        self.refused(TooMany, {"limit": 600}, joined_game, one, one)
        self.assertEqual(judge(joined_game(one, two), Machine.of_rows(0, 0, [[((), 0)]]))[0], "good")


if __name__ == "__main__":
    unittest.main()
