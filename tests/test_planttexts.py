"""Plants and wishes as texts, plants as chains and chains as plants."""

import itertools
import unittest

from guardrungs.chains import Chain, free
from guardrungs.errors import BadLot, BadPlant, BadText, BadWish
from guardrungs.plantchains import chain_of_plant, plant_of_chain
from guardrungs.plants import Plant
from guardrungs.planttexts import plant_from, plant_text, wish_from, wish_text
from guardrungs.wishes import Wish
from tests.checks import NO_NAMES, Case
from tests.plain import Chance, rows
from tests.plainplants import PlantChance, having

PLANT = "plant\nmachine 3\n0 go 1\n1 back 0\nmachine 1\noutputs 2\ndriver go 0 1\nlevel 0 1 2\nmark go back\nlevel 1\nmark"
WISH = "wish\nnever 0=1 1=2\nnever always\nend 0\n0=1 1=2\nalways\nend 1\nend 2\n3=0"


def same(plant):
    return (plant.machines, plant.outputs, plant.inputs, plant.drivers)


class TestPlantTexts(Case):
    def test_text(self):
        plant = Plant(((3, ((0, "go", 1), (1, "back", 0))), (1, ())), 2,
                      (("level", 0, (1, 2)), ("mark", ("go", "back")), ("level", 1, ()), ("mark", ())),
                      drivers=(("go", 0, 1),))
        self.told(PLANT, plant_text, plant)
        self.assertEqual(same(plant_from(PLANT)), same(plant))

    def test_there_and_back(self):
        chance = PlantChance(121)
        for _ in range(150):
            plant = chance.plant(machines=chance.random.randint(1, 3), outputs=chance.random.randint(0, 2), inputs=3)
            text = plant_text(plant)
            self.assertFalse(text.endswith("\n"))
            self.assertEqual(same(plant_from(text)), same(plant))
            self.assertEqual(plant_text(plant_from(text)), text)
            loose = "\n \n" + text.replace(" ", "   ").replace("\n", "  \n\n  ") + "\n  \n"
            self.assertEqual(same(plant_from(loose)), same(plant))

    def test_names_that_are_words(self):
        words = ("machine", "outputs", "driver", "level", "mark", "plant")
        plant = Plant(((2, tuple((0, word, 1) for word in words)),), 1, (("mark", words),),
                      drivers=tuple((word, 0, 1) for word in words))
        self.assertEqual(same(plant_from(plant_text(plant))), same(plant))

    def test_lines_that_cannot_be_read(self):
        lines = PLANT.split("\n")
        wrong = ["", "x", "machine", "machine x", "machine 01", "machine -1", "machine 1234567", "machine 1 1", "0 go",
                 "0 go 1 1", "x go 1", "0 go x", "0 1 1", "0 Go 1", "outputs", "outputs x", "outputs 1 1", "driver go 0",
                 "driver go 0 1 1", "driver 0 0 1", "driver go x 1", "level", "level x", "level 0 x", "level 0 01",
                 "mark 0", "mark go not", "Mark go", "plant", "wish", "0\tgo 1", "level 0=1", "end 0", "machine 3 :"]
        for at, line in itertools.product(range(len(lines)), wrong):
            if line == "":
                continue
            text = "\n".join(lines[:at] + [line] + lines[at + 1:])
            if (at, line) in ((0, "plant"),):
                continue
            with self.subTest(at=at, line=line):
                self.refused(BadText, {"line": at + 1}, plant_from, text)
        for name in NO_NAMES:
            if isinstance(name, str) and name.strip(" ") == name and name and "\n" not in name and " " not in name:
                self.refused(BadText, {"line": 3}, plant_from, f"plant\nmachine 2\n0 {name} 1\noutputs 0")
                self.refused(BadText, {"line": 4}, plant_from, f"plant\nmachine 2\noutputs 0\nmark {name}")
                self.refused(BadText, {"line": 4}, plant_from, f"plant\nmachine 2\noutputs 1\ndriver {name} 0 1")

    def test_order_of_lines(self):
        for text, line in (("plant\n0 go 1\nmachine 2\noutputs 0", 2), ("plant\nmachine 2\noutputs 0\noutputs 0", 4),
                           ("plant\nmachine 2\noutputs 0\nmachine 2", 4), ("plant\nmachine 2\noutputs 0\n0 go 1", 4),
                           ("plant\nmachine 2\n0 go 1\noutputs 1\nmark go\ndriver go 0 1", 6),
                           ("plant\nmachine 2\nmark\noutputs 0", 3), ("\n\nplants", 3), ("plant x", 1),
                           ("plant\nplant", 2), ("machine 2\noutputs 0", 1), ("plant\n\nmachine 2\n\nlevel 0", 5)):
            self.refused(BadText, {"line": line}, plant_from, text)
        for text in ("", " \n ", "plant", "plant\nmachine 2\n0 go 1", "\nplant\n\n"):
            self.refused(BadText, {"line": 0}, plant_from, text)
        for wrong in (None, 3, b"plant", ["plant"], ("plant",)):
            self.refused(BadText, {"line": 0}, plant_from, wrong)
            self.refused(BadText, {"line": 0}, wish_from, wrong)

    def test_wrong_values_are_read(self):
        for text, word, place in (("plant\noutputs 0", "machine", -1), ("plant\nmachine 0\noutputs 0", "machine", 0),
                                  ("plant\nmachine 2\n0 go 2\noutputs 0", "machine", 0),
                                  ("plant\nmachine 1\noutputs 0\nlevel 1", "input", 0),
                                  ("plant\nmachine 1\noutputs 0\nlevel 0 0 0", "input", 0),
                                  ("plant\nmachine 1\noutputs 0\nmark go", "input", 0),
                                  ("plant\nmachine 1\n0 go 0\noutputs 1\ndriver go 1 0", "driver", 0),
                                  ("plant\nmachine 1\n0 go 0\noutputs 1\ndriver go 0 2", "driver", 0),
                                  ("plant\nmachine 1\n0 go 0\noutputs 1\ndriver go 0 1\ndriver go 0 1", "driver", 1)):
            self.refused(BadPlant, {"word": word, "place": place}, plant_from, text)
        self.assertEqual(plant_from("plant\nmachine 999999\noutputs 999999").outputs, 999999)


class TestWishTexts(Case):
    def test_text(self):
        wish = Wish((((0, 1), (1, 2)), ()), ((((0, 1), (1, 2)), ()), (), (((3, 0),),)))
        self.told(WISH, wish_text, wish)
        told = wish_from(WISH)
        self.assertEqual((told.never, told.ends), (wish.never, wish.ends))
        empty = wish_from("wish")
        self.assertEqual((empty.never, empty.ends, wish_text(empty)), ((), (), "wish"))

    def test_there_and_back(self):
        chance = PlantChance(122)
        for _ in range(150):
            def lot():
                return tuple(tuple((m, chance.random.randint(0, 12)) for m in sorted(chance.some(range(12), 0, 3)))
                             for _ in range(chance.random.randint(0, 3)))
            wish = Wish(lot(), tuple(lot() for _ in range(chance.random.randint(0, 12))))
            text = wish_text(wish)
            for one in (text, "\n  " + text.replace(" ", "  ").replace("\n", " \n\n ") + "\n"):
                told = wish_from(one)
                self.assertEqual((told.never, told.ends), (wish.never, wish.ends))
            self.assertEqual(wish_text(wish_from(text)), text)

    def test_lines_that_cannot_be_read(self):
        lines = WISH.split("\n")
        wrong = ["x", "never", "never 0", "never 0=", "never =1", "never 0 =1", "never 0= 1", "never 0=1=2", "never 0=x",
                 "never 01=1", "never always 0=1", "never 0=1 always", "end", "end x", "end 0 0", "end 7", "0=1 always",
                 "always always", "Always", "0", "0 = 1", "-1=0", "0=1234567", "wish", "plant", "nevers 0=1"]
        for at, line in itertools.product(range(len(lines)), wrong):
            if (at, line) == (0, "wish"):
                continue
            with self.subTest(at=at, line=line):
                text = "\n".join(lines[:at] + [line] + lines[at + 1:])
                self.refused(BadText, {"line": at + 1}, wish_from, text)
        for text, line in (("wish\n0=1", 2), ("wish\nalways", 2), ("wish\nend 1", 2), ("wish\nend 0\nend 2", 3),
                           ("wish\nend 0\nend 0", 3), ("wish\nend 0\nnever 0=1", 3), ("\nwish\n\nend 00", 4)):
            self.refused(BadText, {"line": line}, wish_from, text)
        for text in ("", "\n \n"):
            self.refused(BadText, {"line": 0}, wish_from, text)

    def test_wrong_values_are_read(self):
        self.refused(BadWish, {"word": "never", "place": 1}, wish_from, "wish\nnever 0=1\nnever 1=0 0=1")
        self.refused(BadWish, {"word": "end", "place": 1}, wish_from, "wish\nend 0\n0=1\nend 1\n0=0 0=0")


class TestChainsOfPlants(Case):
    def plain(self, plant):
        names = []
        for change in plant.changes:
            number = plant.changes.index(change)
            formula = ("name", f"c{number}")
            for driven, output, bit in plant.drivers:
                if driven == change:
                    out = ("name", f"o{output}")
                    formula = ("and", (formula, out if bit else ("not", out)))
            arrows = [[(m, a, b) for a, c, b in plant.machines[m][1] if c == change] for m in having(plant, change)]
            for way in itertools.product(*arrows):
                names.append((tuple(f"m{m}.s{a}" for m, a, _ in way), formula, tuple(f"m{m}.s{b}" for m, _, b in way)))
        return tuple(names)

    def test_chains(self):
        chance = PlantChance(123)
        for _ in range(80):
            plant = chance.plant(machines=chance.random.randint(1, 3), outputs=chance.random.randint(0, 2), arrows=5)
            chain = chain_of_plant(plant)
            self.assertIs(type(chain), Chain)
            steps = [[f"m{m}.s{s}" for s in range(size)] for m, (size, _) in enumerate(plant.machines)]
            self.assertEqual(chain.steps, tuple(step for row in steps for step in row))
            self.assertEqual(chain.marked, tuple(row[0] for row in steps))
            self.assertEqual(chain.inputs, tuple(f"o{k}" for k in range(plant.outputs))
                             + tuple(f"c{k}" for k in range(len(plant.changes))))
            self.assertEqual((chain.outputs, chain.cells, chain.actions), ((), (), ()))
            self.assertEqual(chain.transitions, self.plain(plant))
            standing, p = chain.start(), plant.origin
            for _ in range(25):
                if not plant.changes:
                    break
                row, change = chance.pick(rows(plant.outputs)), chance.pick(plant.changes)
                one = tuple(1 if c == change else 0 for c in plant.changes)
                _, standing = chain.step(standing, row + one)
                p = plant.after_change(p, change) if change in plant.possible(p, row) else p
                self.assertEqual(set(chain.marks_in(standing)), {steps[m][s] for m, s in enumerate(p)})

    def test_back(self):
        # A plant that is made a chain and then a plant goes on with the same changes.
        chance = PlantChance(124)
        for _ in range(60):
            plant = chance.plant(machines=2, outputs=0, arrows=5)
            chain = chain_of_plant(plant)
            lots = [[f"m{m}.s{s}" for s in range(size)] for m, (size, _) in enumerate(plant.machines)]
            back = plant_of_chain(chain, lots)
            self.assertEqual([size for size, _ in back.machines], [size for size, _ in plant.machines])
            p = plant.origin
            for _ in range(15):
                told = {}
                for name in back.possible(p, ()):
                    number = int(chain.transitions[int(name[1:])][1][1][1:])
                    told[plant.changes[number]] = back.after_change(p, name)
                self.assertEqual(set(told), set(plant.possible(p, ())))
                for change, behind in told.items():
                    self.assertEqual(behind, plant.after_change(p, change))
                if told:
                    p = chance.pick(told.values())


class TestPlantsOfChains(Case):
    CHAIN = Chain((), (), ("a", "b", "c", "d", "e"), ("b", "d"),
                  ((("b",), ("bit", 1), ("a",)), (("a", "d"), ("bit", 0), ("c", "e")), (("c",), ("bit", 1), ("c",)),
                   (("e",), ("rise", "a"), ("d",))), ())

    def test_lots(self):
        plant = plant_of_chain(self.CHAIN, [("c", "a", "b"), ["d", "e"]])
        self.assertIs(type(plant), Plant)
        self.assertEqual(plant.machines, ((3, ((0, "t0", 1), (1, "t1", 2), (2, "t2", 2))), (2, ((0, "t1", 1), (1, "t3", 0)))))
        self.assertEqual((plant.outputs, plant.inputs, plant.drivers), (0, (), ()))
        twice = plant_of_chain(self.CHAIN, (("a", "b", "c"), ("d", "e"), ("e", "d")))
        self.assertEqual(twice.machines[1], twice.machines[2])
        # The marked step and the first one are exchanged, whatever stands between.
        three = Chain((), (), ("a", "b", "c"), ("c",), ((("c",), ("bit", 1), ("b",)),), ())
        self.assertEqual(plant_of_chain(three, (("a", "b", "c"),)).machines, ((3, ((0, "t0", 1),)),))

    def test_it_goes_on_as_the_free_chain(self):
        chance = Chance(125)
        tried = 0
        while tried < 40:
            # Rings of steps beside one another, with transitions that take from several.
            sizes = [chance.random.randint(1, 3) for _ in range(2)]
            lots = [[f"s{m}.{k}" for k in range(size)] for m, size in enumerate(sizes)]
            told = []
            for _ in range(4):
                taken = [lot for lot in lots if chance.random.random() < 0.6]
                if taken:
                    told.append((tuple(chance.pick(lot) for lot in taken), ("bit", 1),
                                 tuple(chance.pick(lot) for lot in taken)))
            chain = Chain((), (), sum(lots, []), [chance.pick(lot) for lot in lots], told, ())
            plant = plant_of_chain(chain, lots)
            machines = []
            for lot in lots:
                at = [step in chain.marked for step in lot].index(True)
                lot = list(lot)
                lot[0], lot[at] = lot[at], lot[0]
                machines.append(lot)
            loose = free(chain)
            standing, p = loose.start(), plant.origin
            for _ in range(15):
                possible = {int(name[1:]) for name in plant.possible(p, ())}
                for number in range(len(told)):
                    one = tuple(1 if k == number else 0 for k in range(len(told)))
                    self.assertEqual(loose.fired_in(standing, one), (number,) if number in possible else ())
                if not possible:
                    break
                number = chance.pick(sorted(possible))
                _, standing = loose.step(standing, tuple(1 if k == number else 0 for k in range(len(told))))
                p = plant.after_change(p, f"t{number}")
                self.assertEqual(set(loose.marks_in(standing)), {machines[m][s] for m, s in enumerate(p)})
            tried += 1

    def test_wrong(self):
        good = (("a", "b", "c"), ("d", "e"))
        for wrong in (None, "ab", 3, {}):
            self.refused(BadLot, {"place": -1}, plant_of_chain, self.CHAIN, wrong)
        cases = [None, "d", (), ("e",), ("d", "d"), ("d", "x"), ("d", 1), ("b", "d"), ("d", "e", "b"), ("d",),
                 ("a", "b"), ("b", "c", "a", "e"), ("d", ["e"]), ("d", None)]
        for wrong in cases:
            self.refused(BadLot, {"place": 1}, plant_of_chain, self.CHAIN, (good[0], wrong, wrong))
        self.refused(BadLot, {"place": -1}, plant_of_chain, self.CHAIN, (good[0],))
        self.refused(BadLot, {"place": -1}, plant_of_chain, self.CHAIN, ())
        self.refused(BadLot, {"place": 0}, plant_of_chain, self.CHAIN, (("d",),))
        # Two from steps in one lot, and as many to steps.
        two = Chain((), (), ("a", "b", "c"), ("a",), ((("b", "c"), ("bit", 1), ("a", "b")),), ())
        self.refused(BadLot, {"place": 0}, plant_of_chain, two, (("a", "b", "c"),))


if __name__ == "__main__":
    unittest.main()
