"""Layers, falling rows, moves, depths and places that are met."""

import itertools
import unittest

from guardrungs.errors import BadFalling, BadNumber, BadRow
from guardrungs.moves import Everywhere, Ground, depth, depth_of, falling_moves, layers, meets, rows_of_changes
from guardrungs.plants import Plant
from tests import plainplants as plain
from tests.checks import NO_BITS, NO_NUMBERS, NO_ROWS, Case, is_tuples
from tests.plain import rows

PLANT = Plant(((2, ((0, "go", 1), (1, "back", 0))),), 1, (("level", 0, (1,)), ("mark", ("back",))),
              drivers=(("go", 0, 1),))
FALLINGS = [(0, 0), (0, 1), (1, 1), (0, 3), (2, 2), (1, 3), (2, 4), (0, None), (1, None), (3, None), (24, 24), (0, 24)]


def some_plants(number, many):
    chance = plain.PlantChance(number)
    for _ in range(many):
        yield chance, chance.plant(machines=chance.random.randint(1, 2), outputs=chance.random.randint(0, 2),
                                   inputs=chance.random.randint(0, 3), arrows=5)


def plain_layers(plant, standing, row, many):
    told = []
    for j in range(many + 1):
        pairs = plain.layer(plant, standing, row, j)
        told.append(tuple(sorted({(plain.marks_of(plant, come), p) for come, p in pairs})))
    return tuple(told)


def plain_depth(plant, standing, row):
    told = plain_layers(plant, standing, row, 30)
    return max(min(j for j, pairs in enumerate(told) if pair in pairs) for pairs in told for pair in pairs)


class TestLayers(Case):
    def test_layers(self):
        for chance, plant in some_plants(91, 60):
            for standing in sorted(plain.reached(plant)):
                for row in rows(plant.outputs):
                    many = chance.random.randint(0, 6)
                    self.told(plain_layers(plant, standing, row, many), layers, plant, list(standing), list(row), many)

    def test_edges(self):
        still = Plant(((1, ()),), 0, (("mark", ()),))
        self.told(((((0,), (0,)),), (), ()), layers, still, (0,), (), 2)
        self.told(((((0,), (0,)),),), layers, still, [0], [], 0)
        self.assertEqual(len(layers(PLANT, (0,), (1,), 300)), 301)

    def test_wrong(self):
        for wrong in NO_ROWS + [(), (0, 1)]:
            self.refused(BadRow, {"place": -1}, layers, PLANT, (0,), wrong, -1)
        for wrong in NO_BITS:
            self.refused(BadRow, {"place": 0}, layers, PLANT, (0,), (wrong,), -1)
        for wrong in NO_NUMBERS + [-1]:
            self.refused(BadNumber, {"word": "many"}, layers, PLANT, (0,), (1,), wrong)


class TestMoves(Case):
    def test_moves(self):
        for chance, plant in some_plants(92, 60):
            for standing in sorted(plain.reached(plant)):
                for row in rows(plant.outputs):
                    for least, most in chance.some(FALLINGS, 4, 4):
                        wanted = plain.moves(plant, standing, row, least, most)
                        self.told(wanted, falling_moves, plant, list(standing), list(row), least, most)
                        self.assertGreater(len(wanted), 0)

    def test_falling_rows_one_by_one(self):
        # By the words of [109], over all rows of changes.
        for chance, plant in some_plants(93, 30):
            least, most = chance.pick([(0, 2), (1, 2), (2, 3), (3, 3), (0, 0)])
            for standing in sorted(plain.reached(plant)):
                for row in rows(plant.outputs):
                    wanted = set()
                    for j in range(most + 1):
                        for names in plain.all_changes(plant, standing, row, j):
                            p = standing
                            for change in names:
                                p = plain.led(plant, p, change)
                            if j >= least or not plain.possible(plant, p, row):
                                wanted.add((plain.reading_of(plant, p, names), p))
                    self.assertEqual(falling_moves(plant, standing, row, least, most), tuple(sorted(wanted)))

    def test_what_layers_and_depths_tell(self):
        # [110]: a greater k only adds moves, from the depth on none; fallings one behind the other.
        for chance, plant in some_plants(94, 25):
            for standing in sorted(plain.reached(plant))[:4]:
                for row in rows(plant.outputs):
                    deep = depth(plant, standing, row)
                    marks = len([one for one in plant.inputs if one[0] == "mark"])
                    self.assertLess(deep, len(plain.reached(plant)) * 2 ** marks)
                    pairs = [plain.layer(plant, standing, row, j) for j in range(deep + 3)]
                    told = [{(plain.marks_of(plant, come), p) for come, p in one} for one in pairs]
                    self.assertEqual(set().union(*told[:deep + 1]), set().union(*told))
                    if deep > 0:
                        self.assertLess(set().union(*told[:deep]), set().union(*told))
                    moves = [falling_moves(plant, standing, row, 0, k) for k in range(deep + 3)]
                    for few, more in zip(moves, moves[1:]):
                        self.assertLessEqual(set(few), set(more))
                    self.assertEqual(moves[deep], falling_moves(plant, standing, row, 0, None))
                    least, most = chance.pick([(0, 1), (1, 2), (2, 2), (1, None)])
                    pairs = {(frozenset(), standing)}
                    for _ in range(3):
                        pairs = {(come | more, q) for come, p in pairs
                                 for more, q in plain.falling_pairs(plant, p, row, least, most, 12)}
                    thrice = tuple(sorted({(plain.reading_of(plant, p, come), p) for come, p in pairs}))
                    if least == 1 and most is None:
                        continue
                    self.assertEqual(thrice, falling_moves(plant, standing, row, 3 * least, 3 * most))

    def test_all_standings_at_once(self):
        for chance, plant in some_plants(95, 60):
            ground = Ground(plant, plant.origin)
            for row in rows(plant.outputs):
                least, most = chance.pick(FALLINGS)
                everywhere = Everywhere(ground, row)
                everywhere.fall(least, most)
                self.assertEqual(set(ground.standings), plain.reached(plant))
                for number, standing in enumerate(ground.standings):
                    told = set()
                    for place in range(everywhere.lots[number].bit_length()):
                        if everywhere.lots[number] >> place & 1:
                            behind = ground.standings[place // ground.width]
                            marks = ground.marks_row(place % ground.width)
                            levels = plant.level_row(behind)
                            told.add((tuple(a | b for a, b in zip(levels, marks)), behind))
                    self.assertEqual(tuple(sorted(told)), falling_moves(plant, standing, row, least, most))

    def test_wrong(self):
        for call in (falling_moves, meets):
            more = ((),) if call is meets else ()
            for wrong in NO_ROWS + [(), (0, 1)]:
                self.refused(BadRow, {"place": -1}, call, PLANT, (0,), wrong, -1, 25, *more)
            for wrong in NO_BITS:
                self.refused(BadRow, {"place": 0}, call, PLANT, (0,), (wrong,), -1, 25, *more)
            for wrong in NO_NUMBERS + [-1, 25]:
                self.refused(BadFalling, {}, call, PLANT, (0,), (1,), wrong, None, *more)
                self.refused(BadFalling, {}, call, PLANT, (0,), (1,), wrong, 24, *more)
                if wrong is not None:
                    self.refused(BadFalling, {}, call, PLANT, (0,), (1,), 0, wrong, *more)
            self.refused(BadFalling, {}, call, PLANT, (0,), (1,), 2, 1, *more)

    def test_least_above_all_that_is_possible(self):
        stops = Plant(((3, ((0, "a", 1), (1, "b", 2))),), 0, (("mark", ("b",)),))
        self.told((((1,), (2,)),), falling_moves, stops, (0,), (), 24, 24)
        self.told((((1,), (2,)),), falling_moves, stops, (0,), (), 24, None)
        self.told((((0,), (1,)), ((1,), (2,))), falling_moves, stops, (0,), (), 1, None)
        self.told((((0,), (2,)),), falling_moves, stops, (2,), (), 3, 4)


class TestRowsOfChanges(Case):
    def test_rows(self):
        for chance, plant in some_plants(96, 40):
            for standing in sorted(plain.reached(plant))[:4]:
                for row in rows(plant.outputs):
                    many = chance.random.randint(0, 4)
                    wanted = []
                    for j in range(many + 1):
                        wanted.extend(plain.all_changes(plant, standing, row, j))
                    told = list(rows_of_changes(plant, list(standing), list(row), many))
                    self.assertEqual(told, wanted)
                    self.assertTrue(is_tuples(tuple(told)))

    def test_it_is_made_one_by_one(self):
        both = Plant(((1, tuple((0, f"c{k}", 0) for k in range(10))),), 0, ())
        told = rows_of_changes(both, (0,), (), 10 ** 6)
        self.assertEqual(list(itertools.islice(told, 112))[-2:], [("c9", "c9"), ("c0", "c0", "c0")])
        self.assertEqual(list(rows_of_changes(Plant(((1, ()),), 0, ()), (0,), (), 10 ** 9)), [()])

    def test_wrong(self):
        # Nothing is raised ahead of the first item.
        for wrong in NO_ROWS + [(), (0, 1)]:
            told = rows_of_changes(PLANT, (0,), wrong, -1)
            self.refused(BadRow, {"place": -1}, next, told)
        for wrong in NO_NUMBERS + [-1]:
            told = rows_of_changes(PLANT, (0,), (1,), wrong)
            self.refused(BadNumber, {"word": "many"}, next, told)
        row = [1]
        told = rows_of_changes(PLANT, (0,), row, 1)
        row[0] = 0
        self.assertEqual(list(told), [()])


class TestDepth(Case):
    def test_depth(self):
        for _, plant in some_plants(97, 50):
            told = []
            for standing in sorted(plain.reached(plant)):
                for row in rows(plant.outputs):
                    told.append(plain_depth(plant, standing, row))
                    self.told(told[-1], depth, plant, list(standing), list(row))
            self.told(max(told), depth_of, plant)

    def test_ring(self):
        ring = Plant(((6, tuple((s, "on", (s + 1) % 6) for s in range(6))),), 1, (("mark", ("on",)),),
                     drivers=(("on", 0, 0),))
        # Behind six changes the plant is back, with the mark set.
        self.told(6, depth, ring, (0,), (0,))
        self.told(0, depth, ring, (0,), (1,))
        self.told(6, depth_of, ring)

    def test_wrong(self):
        for wrong in NO_ROWS + [(), (0, 1)]:
            self.refused(BadRow, {"place": -1}, depth, PLANT, (0,), wrong)


class TestMeets(Case):
    def test_meets(self):
        met = {True: 0, False: 0}
        for chance, plant in some_plants(98, 80):
            for standing in sorted(plain.reached(plant)):
                for row in rows(plant.outputs):
                    never = chance.pick([chance.lot(plant), list(chance.lot(plant)), ((),), ()])
                    least, most = chance.pick(FALLINGS)
                    wanted = plain.meets(plant, standing, row, least, most, never)
                    self.told(wanted, meets, plant, list(standing), list(row), least, most, never)
                    met[wanted] += 1
        self.assertGreater(min(met.values()), 50)

    def test_the_beginning_alone_does_not_count(self):
        line = Plant(((3, ((0, "a", 1), (1, "b", 2))),), 0, ())
        self.told(False, meets, line, (0,), (), 0, None, (((0, 0),),))
        self.told(True, meets, line, (0,), (), 0, 1, (((0, 1),),))
        self.told(False, meets, line, (0,), (), 0, 1, (((0, 2),),))
        self.told(True, meets, line, (0,), (), 2, 2, (((0, 1),),))
        self.told(False, meets, line, (0,), (), 0, 0, ((),))
        self.told(False, meets, line, (2,), (), 0, None, ((),))
        self.told(False, meets, line, (0,), (), 0, None, (((1, 0),),))


if __name__ == "__main__":
    unittest.main()
