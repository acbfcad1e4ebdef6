"""Patterns, lots of places and wishes."""

import unittest

from guardrungs.errors import BadWish
from guardrungs.wishes import Wish, fits, joined_wish, moved
from tests.checks import NO_NUMBERS, Case, is_tuples
from tests.plainplants import PlantChance, is_in

NO_PATTERNS = [
    None, [(0, 1)], (0, 1), ((0,),), ((0, 1, 2),), ([0, 1],), ((-1, 0),), ((0, -1),), ((True, 0),), ((0, False),),
    (("0", 1),), ((0, None),), ((1, 0), (0, 0)), ((0, 0), (0, 1)), ((0, 0), None), "", {}, 3, ((0.0, 1),)]


class TestWishes(Case):
    def test_wishes(self):
        never, ends = [((0, 1), (2, 0)), ()], [[((1, 1),)], (), [()]]
        wish = Wish(never, ends)
        self.assertEqual(wish.never, (((0, 1), (2, 0)), ()))
        self.assertEqual(wish.ends, ((((1, 1),),), (), ((),)))
        self.assertTrue(is_tuples((wish.never, wish.ends)))
        never.append(())
        ends[0].append(())
        self.assertEqual((len(wish.never), len(wish.ends[0])), (2, 1))
        empty = Wish((), [])
        self.assertEqual((empty.never, empty.ends), ((), ()))

    def test_fits(self):
        chance = PlantChance(101)
        for _ in range(200):
            lot = tuple(tuple((m, chance.random.randint(0, 1)) for m in sorted(chance.some(range(4), 0, 3)))
                        for _ in range(chance.random.randint(0, 3)))
            standing = chance.reading(3)
            self.told(is_in(lot, standing), fits, lot, standing)
            self.told(is_in(lot, standing), fits, [pattern for pattern in lot], list(standing))
        self.told(True, fits, ((),), (0,))
        self.told(False, fits, (), (0,))
        self.told(False, fits, (((1, 0),),), (0,))

    def test_wrong(self):
        for wrong in (None, "ab", 3, {(): 1}):
            self.refused(BadWish, {"word": "never", "place": -1}, Wish, wrong, None)
            self.refused(BadWish, {"word": "end", "place": -1}, Wish, (), wrong)
            self.refused(BadWish, {"word": "end", "place": 1}, Wish, (), ((), wrong, wrong))
        for wrong in NO_PATTERNS:
            if wrong not in ("", {}):
                self.refused(BadWish, {"word": "never", "place": 1}, Wish, ((), wrong, wrong), None)
                self.refused(BadWish, {"word": "end", "place": 2}, Wish, ((),), ((), [()], [(), wrong], 3))
        for wrong in NO_NUMBERS:
            self.refused(BadWish, {"word": "never", "place": 0}, Wish, (((wrong, 0),),), ())
            self.refused(BadWish, {"word": "end", "place": 0}, Wish, (), ([((0, wrong),)],))

    def test_joined_and_moved(self):
        one, two = Wish((((0, 1),),), ((), (((1, 2),),))), Wish((((1, 0), (2, 0)), ()), ((((0, 0),), ()),))
        both = joined_wish(one, two)
        self.assertIs(type(both), Wish)
        self.assertEqual((both.never, both.ends), (one.never + two.never, one.ends + two.ends))
        far = moved(two, 3)
        self.assertIs(type(far), Wish)
        self.assertEqual((far.never, far.ends), ((((4, 0), (5, 0)), ()), ((((3, 0),), ()),)))
        same = moved(two, 0)
        self.assertEqual((same.never, same.ends), (two.never, two.ends))
        self.assertEqual(fits(far.never, (7, 7, 7, 7, 0, 0)), True)


if __name__ == "__main__":
    unittest.main()
