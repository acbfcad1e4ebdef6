"""Charts, judged one by one."""

import unittest

from guardrungs.charts import chart_after, chart_row, check_chart, judge_chart
from guardrungs.errors import BadNumber, BadPlant, TooMany
from guardrungs.plants import Plant
from guardrungs.wishes import Wish
from tests.checks import NO_BITS, NO_NUMBERS, Case
from tests.plaincycles import CycleChance, follow, kept_one_by_one, reach_one_by_one
from tests.plainplants import is_in, led, possible

DOOR = Plant(((2, ((0, "a", 1), (1, "b", 0))),), 1, (("level", 0, (1,)),), drivers=(("a", 0, 1),))
CHART = (((1,), (0,)), ((1, 0), (1, 0)))


def many_chart(many):
    return (((0,),) * many, tuple(((q + 1) % many, q) for q in range(many)))


class TestForms(Case):
    def test_right(self):
        for chart in (CHART, (([1], (0,)), CHART[1]), (((0,),), ((0, 0),)), many_chart(60)):
            self.told(None, check_chart, DOOR, chart)
        empty = Plant(((1, ()),), 0, ())
        self.told(None, check_chart, empty, (((),), ((),)))
        self.told((), chart_row, (((),), ((),)), 0)
        self.told((1,), chart_row, (([1],), ((0, 0),)), 0)

    def test_shape(self):
        for wrong in (None, 3, [((1,),), ((0, 0),)], (((1,),),), ((), ()), (((1,),), ()), ([(1,)], ((0, 0),)),
                      (((1,),), [(0, 0)]), (((1,),), ((0, 0), (0, 0))), (((1,),), ((0, 0),), 0), ("a", "b")):
            self.refused(BadPlant, {"word": "chart", "place": -1}, check_chart, DOOR, wrong)
        self.refused(TooMany, {"limit": 60}, check_chart, DOOR, many_chart(61))
        self.refused(TooMany, {"limit": 60}, check_chart, DOOR, ((None,) * 61, (None,) * 61))

    def test_parts(self):
        for row in [None, (), (1, 0), "1", 1] + [(bit,) for bit in NO_BITS]:
            self.refused(BadPlant, {"word": "chart", "place": 1}, check_chart, DOOR, (((1,), row), CHART[1]))
        for arrows in [None, (), (0,), (0, 0, 0), [0, 0], (0, 2), (-1, 0)] + [(0, wrong) for wrong in NO_NUMBERS]:
            self.refused(BadPlant, {"word": "chart", "place": 0}, check_chart, DOOR, (CHART[0], (arrows, (0, 0))))
            # The first standing with anything wrong is told.
            self.refused(BadPlant, {"word": "chart", "place": 0}, check_chart, DOOR, (((1,), None), (arrows, None)))

    def test_steps(self):
        self.told(0, chart_after, DOOR, CHART, 1, ["b"])
        self.told(1, chart_after, DOOR, CHART, 0, ("a", "a", "b", "a"))
        self.told(1, chart_after, DOOR, CHART, 1, ())
        for wrong in [2, -1] + NO_NUMBERS:
            self.refused(BadNumber, {"word": "standing"}, chart_after, DOOR, CHART, wrong, ("zz",))
            self.refused(BadNumber, {"word": "standing"}, chart_row, CHART, wrong)
        for wrong in ("c", None, 0, ["a"], ("a",)):
            self.refused(BadNumber, {"word": "change"}, chart_after, DOOR, CHART, 0, ("a", wrong))
        self.refused(BadPlant, {"word": "chart", "place": -1}, chart_after, DOOR, None, 7, None)
        self.refused(TooMany, {"limit": 60}, chart_after, DOOR, many_chart(61), 0, ())


class TestJudged(Case):
    def test_example(self):
        arrows = ((0, "aa", 1), (0, "bb", 2), (1, "bb", 3), (2, "aa", 3), (3, "cc", 0))
        plant = Plant(((4, arrows),), 2, (), drivers=(("aa", 0, 1), ("bb", 1, 1)))
        chart = (((1, 1), (1, 0), (0, 1), (0, 0)), ((1, 2, 0), (1, 3, 1), (3, 2, 2), (3, 3, 0)))
        self.told(("good", (), None), judge_chart, plant, Wish((((0, 3),),), ()), chart)
        self.told(("bad", ("aa",), None), judge_chart, plant, Wish((((0, 1),),), ()), chart)
        self.told(("never", (), None), judge_chart, plant, Wish(((),), ()), chart)
        self.told(("shut", (), 1), judge_chart, plant, Wish((), (((),), (((0, 3),),))), chart)
        self.told(("good", (), None), judge_chart, plant, Wish((), ((((0, 1),), ((0, 2),)),)), chart)
        self.assertEqual(judge_chart(plant, Wish((), ((((0, 2),),),)), chart), ("shut", ("aa",), 0))
        self.refused(BadPlant, {"word": "chart", "place": 0}, judge_chart, plant, Wish(((),), ()), (((),), ((),)))

    def test_by_chance(self):
        chance = CycleChance(301)
        words = {"never": 0, "bad": 0, "shut": 0, "good": 0}
        for _ in range(400):
            plant = chance.lively(machines=2, outputs=chance.random.randint(0, 2))[0].plant
            chart = chance.chart(plant)
            wish = Wish(chance.lot(plant, 0, 1), [chance.lot(plant, 1) for _ in range(chance.random.randint(0, 2))])
            word, changes, last = self.told(judge_chart(plant, wish, chart), judge_chart, plant, wish, chart)
            self.assertEqual((word, len(changes)), kept_one_by_one(plant, wish, chart))
            p, q = plant.origin, 0
            for change in changes:
                self.assertIn(change, possible(plant, p, chart[0][q]))
                p, q = led(plant, p, change), follow(plant, chart, q, change)
            self.assertIs(is_in(wish.never, p), word in ("never", "bad"))
            if word == "shut":
                self.assertFalse(reach_one_by_one(plant, chart, (p, q), wish.ends[last]))
            else:
                self.assertIsNone(last)
            words[word] += 1
        self.assertGreater(min(words.values()), 8, words)


if __name__ == "__main__":
    unittest.main()
