"""Charts carried by cycles."""

import unittest

from guardrungs.arenas import Arena, Game
from guardrungs.carried import Carrier, carried_by, carried_upto, is_carried
from guardrungs.charts import judge_chart
from guardrungs.errors import BadPlant, BadRow, NotCarried, TooMany
from guardrungs.formsof import chain_of, rungs_of, sheet_of
from guardrungs.joining import Beside
from guardrungs.loops import is_guard, judge
from guardrungs.machines import machine_of
from guardrungs.plants import Plant
from guardrungs.tables import Table
from guardrungs.wishes import Wish
from tests.checks import Case, is_tuples
from tests.plain import rows
from tests.plaincycles import CycleChance, cut_lots, follow, lets, one_by_one
from tests.plainplants import led, marks_of, possible, reading_of

ARROWS = ((0, "aa", 1), (0, "bb", 2), (1, "bb", 3), (2, "aa", 3), (3, "cc", 0))
FORK = Plant(((4, ARROWS),), 2, (("level", 0, (1,)), ("level", 0, (2,))), drivers=(("aa", 0, 1), ("bb", 1, 1)))
CHART = (((1, 1), (1, 0), (0, 1), (0, 0)), ((1, 2, 0), (1, 3, 1), (3, 2, 2), (3, 3, 0)))


def ring(many, tail=0):
    """Standings one behind the other, the last one leading back to the one behind the tail."""
    arrows = tuple((s, "on", s + 1 if s + 1 < many else tail) for s in range(many))
    return Plant(((many, arrows),), 0, ())


def ring_chart(many):
    return (((),) * many, tuple(((q + 1) % many,) for q in range(many)))


def deepest_triples(plant, chart):
    """The greatest depth, in triples of marks, plant standing and chart's standing, of a place met one by one."""
    deepest = 0
    for p, q in one_by_one(plant, chart):
        now, met, length = {(frozenset(), p, q)}, set(), 0
        while True:
            shown = {(marks_of(plant, come), s, r) for come, s, r in now}
            if shown <= met:
                break
            met |= shown
            deepest = max(deepest, length)
            now = {(come | {c}, led(plant, s, c), follow(plant, chart, r, c))
                   for come, s, r in now for c in possible(plant, s, chart[0][q])}
            length += 1
    return deepest


class TestCarried(Case):
    def watch(self, plain, chart, run):
        """Each step of a cut run is right; where it leads is told."""
        plant = plain.plant
        p, q = 0, 0
        for row, changes, reading, behind in run:
            self.assertEqual(row, tuple(chart[0][q]))
            now, r = plain.standings[p][0], q
            for change in changes:
                self.assertIn(change, possible(plant, now, row))
                now, r = led(plant, now, change), follow(plant, chart, r, change)
            self.assertTrue(plain.most is None or len(changes) <= plain.most)
            self.assertTrue(len(changes) >= plain.least or not possible(plant, now, row))
            pairs, _ = plain.behind(plain.standings[p], reading_of(plant, now, changes), now)
            self.assertIn((reading, plain.standings[behind]), pairs)
            p, q = behind, r
        return p, q

    def check(self, arena, plain, chart):
        lots, steps, found = cut_lots(plain, chart)
        word, run, data = self.told(carried_by(arena, chart), carried_by, arena, chart)
        self.told(found is None, is_carried, arena, chart)
        if found is None:
            self.assertEqual((word, run, data), ("carried", (), None))
            self.check_carrier(arena, plain, chart, lots, steps)
            return word
        self.assertEqual(len(run), found[2])
        self.assertTrue(found[0] if word == "unlike" else found[1])
        p, q = self.watch(plain, chart, run)
        if word == "unlike":
            self.assertEqual([step[2] for step in run], [step[2] for step in data])
            self.assertEqual(len(run), len(data))
            _, r = self.watch(plain, chart, data)
            self.assertNotEqual(chart[0][q], chart[0][r])
        else:
            now, row = plain.standings[p][0], chart[0][q]
            self.assertTrue(data and (plain.most is None or len(data) <= plain.most))
            for place, change in enumerate(data):
                self.assertIn(change, possible(plain.plant, now, row))
                self.assertIs(lets(plain.plant, chart, q, change), place < len(data) - 1)
                now, q = led(plain.plant, now, change), follow(plain.plant, chart, q, change)
        self.refused(NotCarried, {}, Carrier, arena, chart)
        return word

    def check_carrier(self, arena, plain, chart, lots, steps):
        book = Carrier(arena, chart)
        self.assertEqual(book.inputs, tuple(f"x{k}" for k in range(len(arena.plant.inputs))))
        self.assertEqual(book.outputs, tuple(f"y{k}" for k in range(arena.plant.outputs)))
        self.told((-1,), book.start)
        self.told((), book.lot_of, (-1,))
        for reading in rows(len(arena.plant.inputs)):
            behind = (0,) if reading == arena.first else (-1,)
            self.told((tuple(chart[0][0]), behind), book.step, (-1,), list(reading))
        for k, lot in enumerate(lots):
            self.told(lot, book.lot_of, (k,))
            for reading in rows(len(arena.plant.inputs)):
                behind = steps[k].get(reading, k)
                self.told((tuple(chart[0][lots[behind][0][1]]), (behind,)), book.step, (k,), reading)
        self.refused(BadRow, {"place": -1}, book.step, (0,), (0,) * (len(arena.plant.inputs) + 1))

    def test_by_chance(self):
        chance = CycleChance(302)
        met = {"carried": 0, "shut": 0, "unlike": 0, "long": 0, "waits": 0, "faults": 0}
        for number in range(450):
            arena, plain = chance.lively(machines=number % 2 + 1, inputs=number % 4, outputs=(2, 1, 2, 1, 0)[number % 5])
            chart = chance.chart(arena.plant)
            if number % 3 == 0:
                chart = (chart[0][:1] * len(chart[0]), chart[1])
            word = self.check(arena, plain, chart)
            met[word] += 1
            met["long"] += word != "carried" and len(carried_by(arena, chart)[1]) > 0
            met["waits"] += len(arena.waits) > 0
            met["faults"] += arena.many > 0 and len(arena.faults) > 0
        self.assertGreater(min(met.values()), 15, met)

    def test_example(self):
        self.told(1, carried_upto, FORK, CHART)
        for k in range(25):
            self.assertIs(is_carried(Arena(FORK, 0, k), CHART), k <= 1)
        self.assertEqual(carried_by(Arena(FORK, 0, 2), CHART)[:2], ("shut", ()))
        self.assertEqual(carried_by(Arena(FORK, 0, 24), CHART)[2][-1] in ("aa", "bb"), True)
        game = Game(Arena(FORK, 0, 1), Wish((((0, 3),),), ()))
        self.assertTrue(is_guard(game, Carrier(game.arena, CHART)))

    def test_no_outputs_no_inputs_no_changes(self):
        still = Plant(((1, ()),), 0, ())
        self.told(("carried", (), None), carried_by, Arena(still, 0, None), (((),), ((),)))
        self.told(None, carried_upto, still, (((),), ((),)))
        book = Carrier(Arena(still, 3, 7), (((),), ((),)))
        self.assertEqual(book.run_from(book.start(), [()] * 3), (((),) * 3, (0,)))
        blind = Plant(((2, ((0, "a", 1),)),), 1, (), drivers=(("a", 0, 1),))
        chart = (((1,), (0,)), ((1,), (1,)))
        self.told(("carried", (), None), carried_by, Arena(blind, 0, 0), chart)
        self.told(("carried", (), None), carried_by, Arena(blind, 1, 1), chart)
        self.assertEqual(carried_by(Arena(blind, 0, 1), chart)[0], "unlike")
        self.told(0, carried_upto, blind, chart)

    def test_written_back_and_beside(self):
        arena = Arena(FORK, 0, 1)
        machine = machine_of(Carrier(arena, CHART))
        for form in (rungs_of, sheet_of, chain_of):
            self.assertTrue(is_guard(Game(arena, Wish((((0, 3),),), ())), form(machine)))
        both = Beside(Carrier(arena, CHART), machine)
        self.assertEqual(both.run([(0, 0, 0, 0), (1, 0, 1, 0)]), ((1, 1, 1, 1), (1, 0, 1, 0)))

    def test_changes_that_can_come(self):
        """[140]: at least <= 1 <= most the carrier lets just what the chart lets one by one; what it keeps is kept."""
        chance = CycleChance(303)
        good = 0
        for _ in range(300):
            arena, plain = chance.lively(waits=0, inputs=3)
            chart = chance.chart(arena.plant)
            if arena.fewest > 1 or arena.most == 0 or not is_carried(arena, chart):
                continue
            wish = Wish(chance.lot(arena.plant, 0, 1), ())
            if judge_chart(arena.plant, wish, chart)[0] == "good":
                game = Game(arena, wish)
                book = Carrier(arena, chart)
                self.assertEqual(judge(game, book)[0], "good")
                table = Table(game)
                lots = cut_lots(plain, chart)[0]
                for k in range(len(book.cuts.lots)):
                    known = tuple(sorted({p for p, _ in lots[k]}))
                    self.assertIn(tuple(chart[0][lots[k][0][1]]), table.let_at(known))
                good += len(lots) > 1
            elif judge_chart(arena.plant, wish, chart)[0] == "bad":
                # A row of changes that comes one by one comes in cycles, too.
                self.assertEqual(judge(Game(arena, wish), Carrier(arena, chart))[0], "bad")
        self.assertGreater(good, 10)

    def test_upto_by_chance(self):
        """[141]: what is carried at (0, k) is carried at each lesser number; the greatest k is the last of them."""
        chance = CycleChance(304)
        met = {}
        for _ in range(120):
            plant = chance.lively(inputs=3, faults=0, waits=0)[0].plant
            chart = chance.chart(plant)
            told = self.told(carried_upto(plant, chart), carried_upto, plant, chart)
            carried = [is_carried(Arena(plant, 0, k), chart) for k in range(25)]
            self.assertTrue(carried[0])
            self.assertEqual(carried, sorted(carried, reverse=True))
            deepest = deepest_triples(plant, chart)
            if carried[min(deepest + 1, 24)]:
                self.assertIsNone(told)
            if told is None:
                self.assertTrue(all(carried) and is_carried(Arena(plant, 0, None), chart))
            else:
                self.assertEqual(told, carried.count(True) - 1)
                self.assertFalse(is_carried(Arena(plant, 0, None), chart))
            met[told] = met.get(told, 0) + 1
        self.assertGreaterEqual(len(met), 3)

    def test_24(self):
        """A row that is written at the start alone lets a change that is possible behind many others."""
        for many, told in ((1, 1), (2, 2), (23, 23), (24, 24), (25, 24), (30, 24)):
            arrows = tuple((s, "on", s + 1) for s in range(many))
            chart = (((1,), (0,)), ((1, 1), (1, 1)))
            shut = Plant(((many + 1, arrows + ((many, "off", many),)),), 1, (("level", 0, (0,)),), drivers=(("off", 0, 1),))
            self.told(told, carried_upto, shut, chart)
            # From each standing but the first one the change cannot come any more.
            word, run, changes = carried_by(Arena(shut, 0, None), chart)
            self.assertEqual((word, run, changes), ("shut", (), ("on",) * many + ("off",)))
            never = Plant(((many + 1, arrows),), 1, (("level", 0, (0,)),))
            self.told(None, carried_upto, never, (chart[0], ((1,), (1,))))


class TestLimits(Case):
    def test_4000(self):
        self.assertTrue(is_carried(Arena(ring(125), 1, 1), ring_chart(32)))
        book = Carrier(Arena(ring(125), 1, 1), ring_chart(32))
        self.assertEqual(book.lot_of((3999,)), ((124, 31),))
        self.assertEqual(book.step((3999,), ()), ((), (0,)))
        arena = Arena(ring(126, 1), 1, 1)
        for call in (carried_by, is_carried, Carrier):
            self.refused(TooMany, {"limit": 4000}, call, arena, ring_chart(32))
        self.told(("carried", (), None), carried_by, Arena(ring(126, 1), 0, 0), ring_chart(32))

    def test_as_many_as_the_run_told_needs(self):
        """Lots of one pair; at one of them two changes lead to unlike rows."""
        for last, steps in ((0, 1), (40, 41), (3997, 3998), (3998, 3999), (3999, None)):
            arrows = tuple((s, "on", (s + 1) % 125) for s in range(125))
            plant = Plant(((125, arrows + ((last % 125, "x", (last + 1) % 125),)),), 1, ())
            ways = [((q + 1) % 32, 32 if q == last % 32 else (q + 1) % 32) for q in range(32)]
            chart = (((0,),) * 32 + ((1,),), tuple(ways) + ((32, 32),))
            arena = Arena(plant, 1, 1)
            if steps is None:
                for call in (carried_by, is_carried, Carrier):
                    self.refused(TooMany, {"limit": 4000}, call, arena, chart)
                continue
            word, run, other = carried_by(arena, chart)
            self.assertEqual((word, len(run), len(other)), ("unlike", steps, steps))
            self.assertTrue(is_tuples((run, other)))
            self.assertEqual({run[-1][1], other[-1][1]}, {("on",), ("x",)})
            self.told(False, is_carried, arena, chart)
            self.refused(NotCarried, {}, Carrier, arena, chart)

    def test_wrong(self):
        arena = Arena(FORK, 0, 1)
        for call in (carried_by, is_carried, Carrier):
            self.refused(BadPlant, {"word": "chart", "place": -1}, call, arena, None)
            self.refused(TooMany, {"limit": 60}, call, arena, (CHART[0] * 16, CHART[1] * 16))
        self.refused(BadPlant, {"word": "chart", "place": 1}, carried_upto, FORK, (CHART[0], ((0, 0, 0), None) * 2))
        # The chart is looked at ahead of the arena.
        big = Plant(((30, tuple((s, "a", (s + 1) % 30) for s in range(30))),
                     (30, tuple((s, "b", (s + 1) % 30) for s in range(30)))), 0, ())
        self.refused(BadPlant, {"word": "chart", "place": -1}, carried_upto, big, ((), ()))
        self.refused(TooMany, {"limit": 600}, carried_upto, big, (((),), ((0, 0),)))


if __name__ == "__main__":
    unittest.main()
