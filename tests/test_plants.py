"""Plants, their changes, readings and drivers."""

import itertools
import unittest

from guardrungs.errors import BadNumber, BadPlant, BadRow
from guardrungs.plants import Plant
from tests import plainplants as plain
from tests.checks import NO_BITS, NO_NAMES, NO_NUMBERS, NO_ROWS, Case, is_tuples
from tests.plain import rows

DOOR = (2, ((0, "go", 1), (1, "back", 0)))


class TestPlants(Case):
    def test_attributes(self):
        machines = [DOOR, (3, ((0, "back", 2), (2, "up", 1), (1, "go", 0)))]
        inputs = [("level", 1, (0, 2)), ("mark", ("up", "go")), ("level", 0, ()), ("mark", ())]
        drivers = [("up", 1, 0), ("go", 0, 1)]
        plant = Plant(machines, 2, inputs, drivers=drivers)
        self.assertEqual(plant.machines, tuple(machines))
        self.assertEqual((plant.outputs, plant.inputs, plant.drivers), (2, tuple(inputs), tuple(drivers)))
        self.assertEqual((plant.changes, plant.origin), (("go", "back", "up"), (0, 0)))
        self.assertEqual(plant.free_changes, ("back",))
        machines.append(DOOR)
        inputs.append(inputs[0])
        drivers.append(("back", 0, 0))
        self.assertEqual((len(plant.machines), len(plant.inputs), len(plant.drivers)), (2, 4, 2))
        bare = Plant(((1, ()),), 0, ())
        self.assertEqual((bare.changes, bare.origin, bare.free_changes, bare.drivers), ((), (0,), (), ()))
        self.assertEqual((bare.possible((0,), ()), bare.level_row((0,))), ((), ()))

    def test_by_chance(self):
        chance = plain.PlantChance(81)
        for _ in range(150):
            plant = chance.plant(machines=chance.random.randint(1, 3), outputs=chance.random.randint(0, 2), arrows=6)
            self.assertEqual(plant.changes, tuple(plain.changes_of(plant)))
            driven = {change for change, _, _ in plant.drivers}
            self.assertEqual(plant.free_changes, tuple(c for c in plant.changes if c not in driven))
            for standing in itertools.product(*[range(size) for size, _ in plant.machines]):
                for row in rows(plant.outputs):
                    self.told(tuple(plain.possible(plant, standing, row)), plant.possible, list(standing), list(row))
                for change in plant.changes:
                    behind = plain.led(plant, standing, change)
                    if behind is None:
                        self.refused(BadNumber, {"word": "change"}, plant.after_change, standing, change)
                    else:
                        self.told(behind, plant.after_change, list(standing), change)
                self.told(plain.reading_of(plant, standing, ()), plant.level_row, standing)
                come = chance.some(plant.changes, 0, 2) * 2
                self.told(plain.reading_of(plant, standing, come), plant.reading_of, list(standing), list(come))

    def test_wrong_calls(self):
        plant = Plant((DOOR,), 1, (), drivers=(("go", 0, 1),))
        for wrong in NO_ROWS + [(), (0, 1)]:
            self.refused(BadRow, {"place": -1}, plant.possible, (0,), wrong)
        for wrong in NO_BITS:
            self.refused(BadRow, {"place": 0}, plant.possible, (0,), (wrong,))
        for wrong in NO_NAMES + ["other", "back"]:
            self.refused(BadNumber, {"word": "change"}, plant.after_change, (0,), wrong)
        # The driver is not looked at.
        self.assertEqual(plant.after_change((0,), "go"), (1,))

    def test_joined(self):
        chance = plain.PlantChance(82)
        for _ in range(40):
            one, two = chance.plant(outputs=1), chance.plant(machines=1, outputs=2)
            both = one.joined(two)
            self.assertIs(type(both), Plant)
            self.assertTrue(is_tuples((both.machines, both.inputs, both.drivers)))
            self.assertEqual(both.outputs, 3)
            self.assertEqual([size for size, _ in both.machines], [m[0] for m in one.machines + two.machines])
            self.assertEqual(both.changes, tuple("a." + c for c in one.changes) + tuple("b." + c for c in two.changes))
            for p in plain.reached(one):
                for q in plain.reached(two):
                    for row in rows(3):
                        wanted = tuple("a." + c for c in plain.possible(one, p, row[:1]))
                        wanted += tuple("b." + c for c in plain.possible(two, q, row[1:]))
                        self.assertEqual(both.possible(p + q, row), wanted)
                    for change in one.changes:
                        if plain.led(one, p, change) is not None:
                            self.assertEqual(both.after_change(p + q, "a." + change), plain.led(one, p, change) + q)
                    self.assertEqual(both.level_row(p + q), one.level_row(p) + two.level_row(q))
                    come = chance.some(one.changes, 0, 1), chance.some(two.changes, 0, 2)
                    named = ["a." + c for c in come[0]] + ["b." + c for c in come[1]]
                    self.assertEqual(both.reading_of(p + q, named),
                                     one.reading_of(p, come[0]) + two.reading_of(q, come[1]))
            wanted = [("a." + c, output, bit) for c, output, bit in one.drivers]
            wanted += [("b." + c, output + 1, bit) for c, output, bit in two.drivers]
            self.assertEqual(both.drivers, tuple(wanted))

    def test_machines_in_another_order(self):
        chance = plain.PlantChance(83)
        for _ in range(40):
            plant = chance.plant(machines=3, outputs=1, arrows=5)
            order = chance.some(range(3), 3, 3)
            inputs = [("level", order.index(one[1]), one[2]) if one[0] == "level" else one for one in plant.inputs]
            other = Plant([plant.machines[m] for m in order], 1, inputs, drivers=plant.drivers)
            for p in plain.reached(plant):
                turned = tuple(p[m] for m in order)
                for row in rows(1):
                    self.assertEqual(sorted(plant.possible(p, row)), sorted(other.possible(turned, row)))
                self.assertEqual(plant.level_row(p), other.level_row(turned))


    def test_a_machine_that_lets_all_come(self):
        # [108]: without a machine that has arrows from all its standings the others make the same changes.
        chance = plain.PlantChance(84)
        for _ in range(40):
            plant = chance.plant(machines=2, outputs=1, arrows=5)
            shared = chance.some(plant.changes, 0, 2)
            ways = tuple((s, change, chance.random.randrange(3)) for s in range(3) for change in shared)
            more = Plant(plant.machines + ((3, ways),), 1, plant.inputs, drivers=plant.drivers)
            p, q = plant.origin, more.origin
            for _ in range(15):
                for row in rows(1):
                    self.assertEqual(sorted(plant.possible(p, row)), sorted(more.possible(q, row)))
                changes = plant.possible(p, chance.reading(1))
                if changes:
                    change = chance.pick(changes)
                    p, q = plant.after_change(p, change), more.after_change(q, change)
                    self.assertEqual(q[:2], p)

    def test_rows_of_changes_of_joined_plants(self):
        chance = plain.PlantChance(85)
        for _ in range(40):
            one, two = chance.plant(machines=1, outputs=1), chance.plant(machines=1, outputs=1)
            both, row = one.joined(two), chance.reading(2)
            now, first, second = both.origin, one.origin, two.origin
            for _ in range(12):
                told = ["a." + c for c in one.possible(first, row[:1])] + ["b." + c for c in two.possible(second, row[1:])]
                self.assertEqual(list(both.possible(now, row)), told)
                if not told:
                    break
                change = chance.pick(told)
                now = both.after_change(now, change)
                if change.startswith("a."):
                    first = one.after_change(first, change[2:])
                else:
                    second = two.after_change(second, change[2:])
                self.assertEqual(now, first + second)


class TestWrong(Case):
    def refuse(self, word, place, *args, **more):
        self.refused(BadPlant, {"word": word, "place": place}, Plant, *args, **more)

    def test_machines(self):
        for wrong in (None, (), [], "ab", {0: DOOR}, 3):
            self.refuse("machine", -1, wrong, -1, None, drivers=None)
        cases = [None, [2, ()], (2,), (2, (), ()), (0, ()), (-1, ()), (True, ()), ("2", ()), (2, []), (2, None),
                 (2, ((0, "go"),)), (2, ([0, "go", 1],)), (2, ((2, "go", 0),)), (2, ((0, "go", 2),)),
                 (2, ((-1, "go", 0),)), (2, ((0, "go", -1),)), (2, ((True, "go", 0),)), (2, ((0, "go", False),)),
                 (2, ((0, "go", 1), (0, "go", 0))), (2, ((0, "go", 1), (0, "go", 1))), (2, ((0, "go", None),))]
        cases += [(2, ((0, name, 1),)) for name in NO_NAMES]
        for wrong in cases:
            self.refuse("machine", 1, (DOOR, wrong, wrong), -1, None, drivers=None)
            self.refuse("machine", 0, [wrong, DOOR], 1, ())
        # The same arrow may stand in two machines, and two changes may lead from one standing.
        Plant((DOOR, DOOR, (1, ((0, "go", 0), (0, "back", 0)))), 0, ())

    def test_outputs(self):
        for wrong in NO_NUMBERS + [-1]:
            self.refuse("outputs", -1, (DOOR,), wrong, None, drivers=None)

    def test_inputs(self):
        for wrong in (None, "ab", 3, {0: ("level", 0, ())}):
            self.refuse("input", -1, (DOOR,), 0, wrong, drivers=None)
        cases = [None, (), ("level",), ("level", 0), ("level", 0, (), ()), ["level", 0, ()], ("level", 1, ()),
                 ("level", -1, ()), ("level", True, ()), ("level", 0, [0]), ("level", 0, None), ("level", 0, (2,)),
                 ("level", 0, (-1,)), ("level", 0, (1, 0)), ("level", 0, (0, 0)), ("level", 0, (False,)),
                 ("level", "0", ()), ("mark",), ("mark", ["go"]), ("mark", ("go", "go")), ("mark", ("other",)),
                 ("mark", (0,)), ("mark", "go"), ("mark", (), ()), ("Mark", ()), (None, 0, ()), ("mark", (["go"],)),
                 ("mark", 0, ()), ("level", ("go",))]
        for wrong in cases:
            self.refuse("input", 1, (DOOR,), 0, (("mark", ()), wrong, wrong), drivers=None)
        Plant((DOOR,), 0, [("mark", ("go", "back")), ("mark", ("back", "go")), ("level", 0, (0, 1)), ("level", 0, ())])

    def test_drivers(self):
        for wrong in (None, "ab", 3, {0: ("go", 0, 1)}):
            self.refuse("driver", -1, (DOOR,), 2, (), drivers=wrong)
        cases = [None, (), ("go", 0), ("go", 0, 1, 1), ["go", 0, 1], ("other", 0, 1), (["go"], 0, 1), (0, 0, 1),
                 ("go", 2, 1), ("go", -1, 1), ("go", True, 1), ("go", None, 1), ("back", 1, 0)]
        cases += [("go", 0, bit) for bit in NO_BITS]
        for wrong in cases:
            self.refuse("driver", 1, (DOOR,), 2, (), drivers=(("back", 0, 1), wrong, wrong))
        self.refuse("driver", 0, (DOOR,), 0, (), drivers=(("back", 0, 1),))


if __name__ == "__main__":
    unittest.main()
