"""The rest, the freest chart, and how many changes a cycle may have."""

import itertools
import unittest

from guardrungs.arenas import Arena, Game
from guardrungs.carried import Carrier, carried_upto, is_carried
from guardrungs.charts import check_chart, judge_chart
from guardrungs.drums import Drummed
from guardrungs.errors import BadFalling, BadPlant, BadRow, BadWish, NoGuard, OtherShape, TooMany
from guardrungs.known import lots_reached, single
from guardrungs.loops import judge
from guardrungs.machines import machine_of
from guardrungs.manychanges import greatest_most, guard_at, row_for, rows_at, shut_shortest
from guardrungs.moves import falling_moves, meets
from guardrungs.onebyone import freest_chart, let_rows, rest_of
from guardrungs.plants import Plant
from guardrungs.tables import Table
from guardrungs.wishes import Wish
from tests.checks import NO_BITS, NO_NUMBERS, NO_ROWS, Case
from tests.plaincycles import CycleChance, follow, lets, one_by_one, rest
from tests.plainplants import all_changes, changes_of, is_in, led, possible, reading_of
from tests.test_freeplants import is_safe
from tests.test_tables import DOOR

FORK = Plant(((4, ((0, "aa", 1), (0, "bb", 2), (1, "bb", 3), (2, "aa", 3))),), 2, (),
             drivers=(("aa", 0, 1), ("bb", 1, 1)))
SHUT = Plant(DOOR.machines, 1, (), drivers=(("a", 0, 1), ("b", 0, 0)))


def line(many):
    return Plant(((many, tuple((s, "on", (s + 1) % many) for s in range(many))),), 0, ())


def plants(number, many, **more):
    chance = CycleChance(number)
    for at in range(many):
        told = dict(bit=1, waits=0, faults=0, outputs=at % 3, machines=at % 2 + 1, inputs=at % 4, most_standings=30)
        told.update(more)
        game, plain = chance.lively_game(**told)
        yield chance, game.arena.plant, game.wish


class TestRest(Case):
    def test_by_chance(self):
        met = {"rest": 0, "none": 0, "cut": 0, "lost": 0}
        for chance, plant, wish in plants(321, 400):
            told = rest(plant, wish)
            self.told(tuple(sorted(told)), rest_of, plant, wish)
            for p in itertools.product(*[range(size) for size, _ in plant.machines]):
                self.told(tuple(told.get(p, ())), let_rows, plant, wish, p)
                self.told(tuple(told.get(p, ())), let_rows, plant, wish, list(p))
                met["cut"] += 0 < len(told.get(p, ())) < 1 << plant.outputs
                if p in told:
                    top = tuple(max(row[k] for row in told[p]) for k in range(plant.outputs))
                    self.assertIn(top, told[p])
                met["lost"] += p not in told and not is_in(wish.never, p)
            met["rest" if plant.origin in told else "none"] += 1
        self.assertGreater(min(met.values()), 30, met)

    def test_rows_of_the_table(self):
        """[142]: if each known lot at (0, 1) is one standing, the let rows are those of the table."""
        met = 0
        for chance, plant, wish in plants(322, 250, inputs=3, fallings=((0, 1),)):
            arena = Arena(plant, 0, 1)
            if not single(arena):
                continue
            table, told = Table(Game(arena, wish)), rest(plant, wish)
            for lot in lots_reached(arena):
                let = told.get(arena.plant_standing(lot[0]), ())
                self.assertEqual(table.let_at(lot), tuple(let))
                met += 0 < len(let) < len(arena.rows)
        self.assertGreater(met, 20)

    def test_wrong(self):
        wish = Wish((), ())
        for call, args in ((rest_of, ()), (let_rows, ((0,),)), (freest_chart, ())):
            self.refused(OtherShape, {}, call, SHUT, wish, *args)
            self.refused(TooMany, {"limit": 600}, call, line(601), wish, *args)
            call(line(600), wish, *args)
            # Those that are not reached count, too; the drivers are looked at first.
            self.refused(TooMany, {"limit": 600}, call, Plant(((601, ()),), 0, ()), wish, *args)
            self.refused(OtherShape, {}, call, Plant(((601, ((0, "a", 1),)),), 1, (), drivers=(("a", 0, 0),)), wish, *args)
        for never in (Wish(((),), ()), Wish((), ((((0, 1),),), ((),)))):
            self.refused(NoGuard, {}, freest_chart, Plant(((2, ()),), 0, ()), never)
        self.refused(TooMany, {"limit": 600}, freest_chart, line(601), Wish(((),), ()))


class TestFreestChart(Case):
    def check(self, plant, wish):
        told = rest(plant, wish)
        if plant.origin not in told:
            self.refused(NoGuard, {}, freest_chart, plant, wish)
            return None
        tops = {p: tuple(max(row[k] for row in told[p]) for k in range(plant.outputs)) for p in told}
        standings = [plant.origin]
        arrows = []
        for p in standings:
            ways = []
            for change in changes_of(plant):
                behind = led(plant, p, change) if change in possible(plant, p, tops[p]) else p
                if behind not in standings:
                    standings.append(behind)
                ways.append(standings.index(behind))
            arrows.append(tuple(ways))
        chart = (tuple(tops[p] for p in standings), tuple(arrows))
        self.told(chart, freest_chart, plant, wish)
        return chart, standings, told

    def test_by_chance(self):
        """[143]: it keeps the wish one by one, and the rows of each chart that does are rows of it."""
        met = {"none": 0, "chart": 0, "others": 0}
        for chance, plant, wish in plants(323, 400):
            told = self.check(plant, wish)
            met["none" if told is None else "chart"] += 1
            for _ in range(6):
                other = chance.chart(plant)
                if judge_chart(plant, wish, other)[0] != "good":
                    continue
                self.assertIsNotNone(told)
                met["others"] += 1
                for (p, q), _ in one_by_one(plant, other).items():
                    self.assertIn(p, told[1])
                    row = chart_row_at(told, p)
                    self.assertTrue(set(possible(plant, p, other[0][q])) <= set(possible(plant, p, row)))
            if told is not None:
                check_chart(plant, told[0])
                self.assertEqual(judge_chart(plant, wish, told[0]), ("good", (), None))
        self.assertGreater(min(met.values()), 40, met)

    def test_freest_plain_guard(self):
        """[143], [144]: where levels tell the standing, and it is carried, its rows and moves hold those of the table."""
        met = {"carried": 0, "not": 0}
        chance = CycleChance(324)
        for _ in range(150):
            game, _ = chance.lively_game(bit=1, waits=0, faults=0, outputs=2, inputs=0, size=4, changes=4, ends=0)
            size = game.arena.plant.machines[0][0]
            plant = Plant(game.arena.plant.machines, 2, [("level", 0, (s,)) for s in range(1, size)],
                          drivers=game.arena.plant.drivers)
            told = self.check(plant, game.wish)
            if told is None:
                continue
            chart, standings, _ = told
            for k in (1, 2, 3, None):
                arena = Arena(plant, 0, k)
                table = Table(Game(arena, game.wish))
                places = {arena.plant_standing(p): p for p in range(len(arena))}
                held = all(chart[0][q] in table.let_at((places[p],)) for q, p in enumerate(standings))
                self.assertIs(is_carried(arena, chart), held)
                for p in standings:
                    self.assertEqual(rows_at(plant, game.wish, p, k), table.let_at((places[p],)))
                if held:
                    self.assertEqual(judge(Game(arena, game.wish), Carrier(arena, chart))[0], "good")
                    for q, p in enumerate(standings):
                        most = set(arena.moves(places[p], chart[0][q]))
                        for row in table.let_at((places[p],)):
                            self.assertTrue(set(arena.moves(places[p], row)) <= most)
                met["carried" if held else "not"] += 1
        self.assertGreater(min(met.values()), 20, met)

    def test_sizes(self):
        chart = freest_chart(line(600), Wish((), ()))
        self.assertEqual(len(chart[0]), 600)
        self.refused(TooMany, {"limit": 60}, check_chart, line(600), chart)
        sizes = (6, 5, 5, 4)
        machines = tuple((size, tuple((s, f"c{m}{k}", (s + (1, size - 1, 2)[k]) % size) for s in range(size)
                                      for k in range(3))) for m, size in enumerate(sizes))
        plant = Plant(machines, 4, (("level", 0, (0,)),) * 6, drivers=[(f"c{m}0", m, 1) for m in range(4)])
        wish = Wish([((0, 3), (1, 3)), ((1, 2), (2, 2), (3, 2))], [(((m, 1),),) for m in range(3)])
        self.assertLess(len(rest_of(plant, wish)), 600)
        self.assertEqual(judge_chart(plant, wish, (((0,) * 4,), ((0,) * 12,)))[0], "bad")

    def test_example(self):
        wish = Wish((((0, 3),),), ())
        self.told((((1, 1), (1, 0), (0, 1)), ((1, 2), (1, 1), (2, 2))), freest_chart, FORK, wish)
        self.told(((0, 0), (0, 1), (1, 0)), rows_at, FORK, wish, (0,), 2)


def chart_row_at(told, p):
    chart, standings, _ = told
    return chart[0][standings.index(p)]


class TestRowsAt(Case):
    def test_by_chance(self):
        met = {"unsafe": 0, "cut": 0, "or": 0}
        for chance, plant, wish in plants(325, 250, ends=0, outputs=2):
            for p in itertools.product(*[range(size) for size, _ in plant.machines]):
                rows = {}
                for most in (1, 2, 3, 24, None):
                    told = ()
                    if is_safe(plant, wish.never, p):
                        told = tuple(row for row in itertools.product((0, 1), repeat=2) if all(
                            is_safe(plant, wish.never, q) for _, q in falling_moves(plant, p, row, 0, most)))
                    self.told(told, rows_at, plant, wish, p, most)
                    self.told(told, rows_at, plant, wish, list(p), most)
                    rows[most] = told
                    met["unsafe"] += not told
                    met["cut"] += 0 < len(told) < 4
                for less, more in ((1, 2), (2, 3), (3, 24), (24, None)):
                    self.assertTrue(set(rows[more]) <= set(rows[less]))
                # For one change in a cycle two rows hold together, from two on not always.
                for row, other in itertools.product(rows[1], rows[1]):
                    self.assertIn(tuple(a | b for a, b in zip(row, other)), rows[1])
                met["or"] += any(tuple(a | b for a, b in zip(row, other)) not in rows[2]
                                 for row, other in itertools.product(rows[2], rows[2]))
        self.assertGreater(min(met.values()), 4, met)

    def test_wrong(self):
        wish, ends = Wish((), ()), Wish((), ((),))
        for most in [25, -1] + [one for one in NO_NUMBERS if one is not None]:
            self.refused(BadFalling, {}, rows_at, SHUT, ends, (0,), most)
            self.refused(BadFalling, {}, guard_at, SHUT, ends, most)
            self.refused(BadFalling, {}, shut_shortest, DOOR, (((1,),), ((0, 0),)), most)
        self.refused(OtherShape, {}, rows_at, SHUT, wish, (0,), 1)
        self.refused(OtherShape, {}, rows_at, DOOR, ends, (0,), 1)
        self.refused(OtherShape, {}, rows_at, DOOR, wish, (0,), 0)
        self.told(((0,), (1,)), rows_at, DOOR, wish, (0,), 24)


class TestGreatest(Case):
    def test_by_chance(self):
        """[145]: greatest_most agrees with guard_at for each most; more changes only by rows that are too long."""
        met = {}
        chance = CycleChance(326)
        for number in range(70):
            game, _ = chance.lively_game(waits=0, faults=0, outputs=1, inputs=1, size=4, machines=1, ends=0,
                                         most_standings=8)
            plant, wish = game.arena.plant, game.wish
            told = greatest_most(plant, wish)
            guards = [self.told(guard_at(plant, wish, most), guard_at, plant, wish, most) for most in range(25)]
            self.assertEqual(guards, sorted(guards, reverse=True))
            self.assertEqual(guards, [Table(Game(Arena(plant, 0, most), wish)).guards for most in range(25)])
            if told is None:
                self.assertTrue(all(guards) and guard_at(plant, wish, None))
            else:
                self.assertEqual(told, guards.count(True) - 1)
                self.assertFalse(guard_at(plant, wish, None))
            met[told] = met.get(told, 0) + 1
        self.assertGreaterEqual(len(met), 3, met)

    def test_more_changes_alone_are_bad(self):
        """[145]: a good guard of (0, k), run at (0, k + 1), is bad only by more than k changes in a cycle."""
        chance, met = CycleChance(329), {"move": 0, "last": 0}
        for number in range(400):
            game, plain = chance.lively_game(waits=0, faults=0, outputs=1, inputs=number % 3, size=4, ends=0,
                                             most_standings=8)
            plant, wish = game.arena.plant, game.wish
            k = greatest_most(plant, wish)
            if k is None or k < 0 or k > 3:
                continue
            small, large = Game(Arena(plant, 0, k), wish), Game(Arena(plant, 0, k + 1), wish)
            word, run, answer = judge(large, Drummed(Table(small), [(1,)]))
            self.assertEqual(word, "bad")
            p, is_long = 0, False
            for row, reading, q in run:
                here, there = large.arena.plant_standing(p), large.arena.plant_standing(q)
                is_long = is_long or row_for(plant, here, row, 0, k, reading, there) is None
                p = q
            here = large.arena.plant_standing(p)
            last = not meets(plant, here, answer, 0, k, wish.never) and meets(plant, here, answer, 0, k + 1, wish.never)
            self.assertTrue(is_long or last)
            met["move"] += is_long
            met["last"] += last
        self.assertGreater(met["last"], 10, met)

    def test_edges(self):
        self.told(-1, greatest_most, DOOR, Wish(((),), ()))
        self.told(None, greatest_most, DOOR, Wish((), ()))
        for many in (1, 2, 23, 24, 25, 26):
            # From the start so many changes lead to never; at the next reading the row of zeros can stop them.
            arrows = tuple((s, f"c{s}", s + 1) for s in range(many))
            plant = Plant(((many + 1, arrows),), 1, (), drivers=[(f"c{s}", 0, 1) for s in range(many)])
            self.told(None, greatest_most, plant, Wish((((0, many),),), ()))
            slow = Plant(((many + 1, arrows),), 1, (), drivers=[("c0", 0, s % 2) for s in (1,)])
            # The guard must stop the first change; nothing stops the others.
            self.told(None, greatest_most, slow, Wish((((0, many),),), ()))
            # Whatever it writes, so many changes lead to never; fewer can be stopped by the other row.
            told = [(s, "a", s + 1) for s in range(many)] + [(0, "b", many + 1)]
            told += [(many + s, "b", many + 1 + s) for s in range(1, many)]
            both = Plant(((2 * many + 1, tuple(told)),), 1, [("level", 0, (0,))],
                         drivers=(("a", 0, 1), ("b", 0, 0)))
            wish = Wish((((0, many),), ((0, 2 * many),)), ())
            self.told(many - 1 if many < 25 else 24, greatest_most, both, wish)

    def test_wrong(self):
        self.refused(BadWish, {"word": "end", "place": 0}, greatest_most, line(601), Wish((), ((),)))
        self.refused(TooMany, {"limit": 600}, greatest_most, line(601), Wish((), ()))
        self.refused(TooMany, {"limit": 600}, guard_at, line(601), Wish((), ()), 1)
        self.told(True, guard_at, line(601), Wish((), ()), 0)
        self.told(True, guard_at, DOOR, Wish((), ((((0, 1),),),)), 1)
        self.told(False, guard_at, DOOR, Wish((), ((((0, 1),),),)), 0)


class TestRowFor(Case):
    def test_by_chance(self):
        met = {"none": 0, "empty": 0, "long": 0, "ended": 0}
        for chance, plant, _ in plants(327, 150, bit=None, size=3):
            least, most = chance.pick(((0, 1), (0, 3), (1, 2), (2, 3), (3, 3), (0, None), (2, None), (0, 0)))
            row = chance.reading(plant.outputs)
            start = tuple(chance.random.randrange(size) for size, _ in plant.machines)
            first = {}
            for length in range(4 if most is None else most + 1):
                for changes in all_changes(plant, start, row, length):
                    p = start
                    for change in changes:
                        p = led(plant, p, change)
                    if length >= least or not possible(plant, p, row):
                        first.setdefault((reading_of(plant, p, changes), p), changes)
            if most is not None:
                self.assertEqual(sorted(first), list(falling_moves(plant, start, row, least, most)))
            for reading in itertools.product((0, 1), repeat=len(plant.inputs)):
                for p in itertools.product(*[range(size) for size, _ in plant.machines]):
                    told = first.get((reading, p))
                    if most is None and told is None:
                        moves = falling_moves(plant, start, row, least, None)
                        self.assertIs(row_for(plant, start, row, least, most, reading, p) is None,
                                      (reading, p) not in moves)
                        continue
                    self.told(told, row_for, plant, start, row, least, most, reading, p)
                    self.told(told, row_for, plant, list(start), list(row), least, most, list(reading), list(p))
                    met["none"] += told is None
                    met["empty"] += told == ()
                    met["long"] += told is not None and len(told) > 1
                    met["ended"] += told is not None and len(told) < least
        self.assertGreater(min(met.values()), 10, met)

    def test_long(self):
        self.told(("on",) * 30, row_for, line(40), (5,), (), 0, None, (), (35,))
        self.told(("on",) * 24, row_for, line(40), (5,), (), 24, 24, (), (29,))
        self.told(None, row_for, line(40), (5,), (), 0, 24, (), (30,))
        self.told(("on",) * 40, row_for, line(40), (5,), (), 1, None, (), (5,))
        self.told(None, row_for, line(40), (5,), (), 0, None, (), (40,))
        marked = Plant(((2, ((0, "a", 0), (0, "b", 0), (0, "c", 1))),), 0, (("mark", ("a",)), ("mark", ("b",))))
        self.told(("a", "b", "c"), row_for, marked, (0,), (), 0, None, (1, 1), (1,))
        # Three changes do, too: behind them none is possible.
        self.told(("a", "b", "c"), row_for, marked, (0,), (), 4, None, (1, 1), (1,))
        self.told(("a", "a", "a", "b"), row_for, marked, (0,), (), 4, None, (1, 1), (0,))
        self.told(("c",), row_for, marked, (0,), (), 24, 24, (0, 0), (1,))
        self.told(None, row_for, marked, (0,), (), 24, 24, (0, 0), (0,))

    def test_wrong(self):
        for wrong in NO_ROWS + [(), (0, 0)]:
            self.refused(BadRow, {"place": -1}, row_for, DOOR, (0,), wrong, 2, 1, None, (0,))
            self.refused(BadRow, {"place": -1}, row_for, DOOR, (0,), (0,), 0, 1, wrong, (9,))
        for wrong in NO_BITS:
            self.refused(BadRow, {"place": 0}, row_for, DOOR, (0,), (wrong,), 2, 1, None, (0,))
            self.refused(BadRow, {"place": 0}, row_for, DOOR, (0,), (0,), 0, 1, (wrong,), (0,))
        for least, most in ((2, 1), (-1, 1), (0, 25), (25, None), (True, 1), (None, None)):
            self.refused(BadFalling, {}, row_for, DOOR, (0,), (0,), least, most, None, (0,))


class TestShutShortest(Case):
    def least(self, plant, chart, most, bound=8):
        """The least number of changes, by trying all rows from all places."""
        for many in range(1, (bound if most is None else most) + 1):
            for p, q in one_by_one(plant, chart):
                for changes in all_changes(plant, p, chart[0][q], many):
                    now, told = q, []
                    for change in changes:
                        told.append(lets(plant, chart, now, change))
                        now = follow(plant, chart, now, change)
                    if all(told[:-1]) and not told[-1]:
                        return many
        return None

    def test_by_chance(self):
        met = {"none": 0, "found": 0}
        for chance, plant, _ in plants(328, 150, bit=None, size=3, outputs=2, driven=0.9):
            chart = chance.chart(plant)
            most = chance.pick((0, 1, 2, 3, 4))
            least = self.least(plant, chart, most)
            told = self.told(shut_shortest(plant, chart, most), shut_shortest, plant, chart, most)
            if least is None:
                self.assertIsNone(told)
                met["none"] += 1
                continue
            p, q, changes = told
            self.assertIn((p, q), one_by_one(plant, chart))
            self.assertEqual(len(changes), least)
            row = chart[0][q]
            for place, change in enumerate(changes):
                self.assertIn(change, possible(plant, p, row))
                self.assertIs(lets(plant, chart, q, change), place < len(changes) - 1)
                p, q = led(plant, p, change), follow(plant, chart, q, change)
            met["found"] += 1
            whole = shut_shortest(plant, chart, None)
            self.assertEqual(len(whole[2]), least)
        self.assertGreater(min(met.values()), 10, met)

    def test_far(self):
        many = 30
        arrows = tuple((s, "on", s + 1) for s in range(many)) + ((many, "off", many),)
        plant = Plant(((many + 1, arrows),), 1, (), drivers=(("off", 0, 1),))
        chart = (((1,), (0,)), ((1, 1), (1, 1)))
        self.told(((0,), 0, ("on",) * many + ("off",)), shut_shortest, plant, chart, None)
        self.told(None, shut_shortest, plant, chart, 24)
        self.told(None, shut_shortest, plant, chart, 0)
        self.refused(BadPlant, {"word": "chart", "place": -1}, shut_shortest, plant, None, 25)
        still = Plant(((1, ()),), 0, ())
        self.told(None, shut_shortest, still, (((),), ((),)), None)

    def test_carried_machine(self):
        plant = Plant(FORK.machines, 2, (("level", 0, (1,)), ("level", 0, (2,))), drivers=FORK.drivers)
        chart = freest_chart(plant, Wish((((0, 3),),), ()))
        self.assertEqual(carried_upto(plant, chart), 1)
        self.assertEqual(len(machine_of(Carrier(Arena(plant, 0, 1), chart))), 4)
        self.assertEqual(len(shut_shortest(plant, chart, 2)[2]), 2)


if __name__ == "__main__":
    unittest.main()
