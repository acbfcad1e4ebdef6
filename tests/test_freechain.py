"""[51] to [53]: the free chain, lots of one, coverings."""

import itertools
import unittest

from guardrungs.chains import Chain, free
from guardrungs.errors import BadLot, BadNumber, TooMany
from guardrungs.chaintexts import chain_from
from guardrungs.freechain import can_fire, doubled_by, marks_reached, stuck_by
from guardrungs.lotsofone import covering, even_at, fires_ever, is_covering, is_lot_of_one
from tests.checks import NO_NUMBERS, Case, is_tuples
from tests.plain import Chance

ONE = ("bit", 1)
HEAD = "chain\ninputs\noutputs\ncells\n"


def nets(many, **more):
    for number in range(many):
        yield Chance(number).chain(**more)


def of(steps, marked, *arrows):
    """A chain of arrows such as "a b > c"."""
    told = [tuple(tuple(side.split()) for side in arrow.split(">")) for arrow in arrows]
    return Chain((), (), steps.split(), marked.split(), [(froms, ONE, tos) for froms, tos in told], ())


def lots_at(chain, marks):
    """The lots that can fire, ascending by the sums of 2 ** k."""
    many = len(chain.transitions)
    for number in range(1 << many):
        lot = tuple(k for k in range(many) if number >> k & 1)
        froms = [step for k in lot for step in chain.transitions[k][0]]
        if len(froms) == len(set(froms)) and set(froms) <= set(marks):
            yield lot


def fired(chain, marks, lot):
    """The marks behind a lot, and whether it doubles a step."""
    left = [step for step in marks if not any(step in chain.transitions[k][0] for k in lot)]
    told = left + [step for k in lot for step in chain.transitions[k][2]]
    return tuple(step for step in chain.steps if step in told), len(set(told)) < len(told)


def explored(chain):
    """All marks as met, and for each the least number of cycles."""
    start = tuple(step for step in chain.steps if step in chain.marked)
    met = {start: 0}
    for marks in (order := [start]):
        for lot in lots_at(chain, marks):
            behind, _ = fired(chain, marks, lot)
            if behind not in met:
                met[behind] = met[marks] + 1
                order.append(behind)
    return met


class TestFreeChain(Case):
    def test_example(self):
        chain = chain_from(HEAD + "steps a b c\nmarked a\nfrom a -> b c : 1\nfrom b -> c : 1")
        self.told((("a",), ("b", "c"), ("c",)), marks_reached, chain)
        self.told(((0,), (1,)), doubled_by, chain)

    def test_by_chance(self):
        for chain in nets(120, transitions=5, steps=5):
            met = explored(chain)
            self.assertEqual(marks_reached(chain), tuple(met))
            self.assertTrue(is_tuples(marks_reached(chain)))
            self.look_at_lots(chain, met)
            doubled = [met[marks] + 1 for marks in met for lot in lots_at(chain, marks) if fired(chain, marks, lot)[1]]
            self.look_at_row(chain, doubled_by(chain), doubled, True)
            stuck = [met[marks] for marks in met if list(lots_at(chain, marks)) == [()]]
            self.look_at_row(chain, stuck_by(chain), stuck, False)

    def look_at_lots(self, chain, met):
        for marks in list(met)[:3]:
            fine = set(lots_at(chain, marks))
            for many in range(4):
                for lot in itertools.combinations(range(len(chain.transitions)), many):
                    self.assertIs(can_fire(chain, list(marks), list(lot)), lot in fine)

    def look_at_row(self, chain, row, lengths, doubles):
        if not lengths:
            self.assertIsNone(row)
            return
        self.assertTrue(isinstance(row, tuple) and is_tuples(row))
        self.assertEqual(len(row), min(lengths))
        marks, last = tuple(step for step in chain.steps if step in chain.marked), False
        for lot in row:
            self.assertTrue(can_fire(chain, marks, lot))
            marks, last = fired(chain, marks, lot)
        if doubles:
            self.assertTrue(last)
        else:
            self.assertEqual(list(lots_at(chain, marks)), [()])

    def test_lots_are_what_the_free_chain_fires(self):
        for chain in nets(40, transitions=4, steps=4):
            book = free(chain)
            start = book.start()
            marks = book.marks_in(start)
            for reading in itertools.product((0, 1), repeat=4):
                lot = book.fired_in(start, reading)
                self.assertTrue(can_fire(chain, marks, lot))
                self.assertEqual(book.marks_in(book.step(start, reading)[1]), fired(chain, marks, lot)[0])
            for lot in lots_at(chain, marks):
                reading = [1 if k in lot else 0 for k in range(4)]
                self.assertEqual(book.fired_in(start, reading), lot)

    def test_can_fire(self):
        chain = of("a b c", "a", "a > b", "a b > c", "c > a")
        for marks, lot, wanted in [
                ((), (), True), (("a",), [0], True), (["a"], (1,), False), (("a", "b"), (0, 1), False),
                (("a", "b", "c"), (0, 2), True), (("a", "b", "c"), (1, 2), True), ((), (2,), False)]:
            self.told(wanted, can_fire, chain, marks, lot)

    def test_can_fire_refuses(self):
        chain = of("a b c", "a", "a > b", "b > c", "c > a")
        for marks in [None, "a", 1, {"a": 1}]:
            self.refused(BadLot, {"place": -1}, can_fire, chain, marks, None)
        for wrong in ["z", "a", "b", None, 0, ["c"], ("c",)]:
            self.refused(BadLot, {"place": 1}, can_fire, chain, ("b", wrong, "z"), None)
        for wrong in ["z", "", None, 0, ["c"], ("c",)]:
            self.refused(BadLot, {"place": 0}, can_fire, chain, (wrong, "z"), None)
        for lot in [None, "0", 0, {0: 1}]:
            self.refused(BadLot, {"place": -1}, can_fire, chain, ["a", "c"], lot)
        for wrong in NO_NUMBERS + [-1, 0, 1, 3]:
            self.refused(BadLot, {"place": 1}, can_fire, chain, (), (1, wrong, 0))
        self.refused(BadLot, {"place": 0}, can_fire, chain, (), (-1,))

    def test_ten_and_eleven_transitions(self):
        arrows = [f"s{k} > s{(k + 1) % 11}" for k in range(11)]
        steps = " ".join(f"s{k}" for k in range(11))
        ten = of(steps, "s0", *arrows[:10])
        self.assertEqual(len(marks_reached(ten)), 11)
        self.told(None, doubled_by, ten)
        self.told(tuple((k,) for k in range(10)), stuck_by, ten)
        self.assertTrue(is_lot_of_one(ten, ten.steps))
        self.assertTrue(fires_ever(ten, 9))
        eleven = of(steps, "s0", *arrows)
        for call in [marks_reached, doubled_by, stuck_by]:
            self.refused(TooMany, {"limit": 10}, call, eleven)
        self.refused(TooMany, {"limit": 10}, is_lot_of_one, eleven, ())
        self.refused(TooMany, {"limit": 10}, fires_ever, eleven, 0)
        # What is looked at ahead of that.
        self.refused(BadLot, {"place": 0}, is_lot_of_one, eleven, ["z"])
        self.refused(BadNumber, {"word": "place"}, fires_ever, eleven, 11)
        self.told(True, even_at, eleven, ("s0", "s1"), 0)

    def rings(self, *lengths):
        """Rings of steps that go round by themselves: the marks that can come are all choices."""
        arrows, steps, marked = [], [], []
        for ring, length in enumerate(lengths):
            names = [f"r{ring}.s{k}" for k in range(length)]
            steps.extend(names)
            marked.append(names[0])
            arrows.extend(f"{names[k]} > {names[(k + 1) % length]}" for k in range(length))
        return of(" ".join(steps), " ".join(marked), *arrows)

    def test_marks_up_to_two_hundred(self):
        self.assertEqual(len(marks_reached(self.rings(2, 3, 5))), 30)
        # Two transitions for each ring of two: so many free choices that marks are many.
        self.assertEqual(len(marks_reached(self.rings(3, 3, 4))), 36)
        spread = of("a b c d e f g h", "a", *[f"a > a {step}" for step in "bcdefgh"])
        self.assertEqual(len(marks_reached(spread)), 128)
        more = of("a b c d e f g h i", "a", *[f"a > a {step}" for step in "bcdefghi"])
        for call in [marks_reached, doubled_by, stuck_by]:
            self.refused(TooMany, {"limit": 200}, call, more)
        self.refused(TooMany, {"limit": 200}, is_lot_of_one, more, ("a",))
        self.refused(TooMany, {"limit": 200}, fires_ever, more, 0)

    def test_just_200_and_201_marks(self):
        five = ["a{0} > c{0}", "b{0} > d{0}", "c{0} d{0} > e{0}"]
        arrows = [arrow.format(k) for k in (0, 1) for arrow in five] + [f"p{k} > q{k}" for k in range(3)]
        steps = "a0 b0 c0 d0 e0 a1 b1 c1 d1 e1 p0 q0 p1 q1 p2 q2 z"
        marked = "a0 b0 a1 b1 p0 p1 p2"
        self.assertEqual(len(marks_reached(of(steps, marked, *arrows))), 200)
        more = of(steps, marked, *arrows, "e0 e1 q0 q1 q2 > z")
        for call in [marks_reached, doubled_by, stuck_by, lambda book: fires_ever(book, 0), lambda book: is_lot_of_one(book, ())]:
            self.refused(TooMany, {"limit": 200}, call, more)

    def test_no_transitions(self):
        chain = of("a b", "b")
        self.told((("b",),), marks_reached, chain)
        self.told((), stuck_by, chain)
        self.told(None, doubled_by, chain)

    def test_doubled_by_two_of_one_lot(self):
        self.told(((0, 1),), doubled_by, of("a b c", "a b", "a > c", "b > c"))
        self.told(((0,),), doubled_by, of("a b", "a b", "a > b"))
        self.told(None, doubled_by, of("a b", "a b", "a b > b a"))
        self.told(None, stuck_by, of("a", "a", "a > a"))


class TestLotsOfOne(Case):
    def plainly(self, chain, lot):
        met = explored(chain)
        if sum(step in lot for step in chain.marked) != 1:
            return False
        for marks in met:
            if sum(step in lot for step in marks) != 1:
                return False
            for fire in lots_at(chain, marks):
                left = [step for step in marks if not any(step in chain.transitions[k][0] for k in fire)]
                told = left + [step for k in fire for step in chain.transitions[k][2]]
                if any(told.count(step) > 1 for step in lot):
                    return False
        return True

    def test_by_the_definition(self):
        found = 0
        for chain in nets(120, transitions=4, steps=4):
            for many in range(5):
                for lot in itertools.combinations(chain.steps, many):
                    wanted = self.plainly(chain, lot)
                    found += wanted
                    self.assertIs(is_lot_of_one(chain, list(lot)[::-1]), wanted)
        self.assertGreater(found, 20)

    def test_in_the_chain_itself(self):
        for number, chain in enumerate(nets(60, transitions=4, steps=4)):
            lots = [lot for many in range(1, 5) for lot in itertools.combinations(chain.steps, many) if is_lot_of_one(chain, lot)]
            standing = chain.start()
            for reading in Chance(number).readings(2, 20):
                standing = chain.step(standing, reading)[1]
                for lot in lots:
                    self.assertEqual(sum(step in lot for step in chain.marks_in(standing)), 1)

    def test_fires_ever(self):
        for chain in nets(60, transitions=4, steps=4):
            met = explored(chain)
            for place, (froms, _, _) in enumerate(chain.transitions):
                self.assertIs(fires_ever(chain, place), any(set(froms) <= set(marks) for marks in met))

    def test_even_at(self):
        chain = of("a b c", "a", "a b > c", "c > a b c")
        for lot, place, wanted in [((), 0, True), (("a", "c"), 0, True), (["a"], 0, False), (("a", "b", "c"), 0, False), (("c", "b"), 1, False),
                                   (("c",), 1, True)]:
            self.told(wanted, even_at, chain, lot, place)

    def test_lots_are_refused(self):
        chain = of("a b c", "a", "a > b")
        for call in [is_lot_of_one, lambda book, lot: even_at(book, lot, None)]:
            for lot in [None, "a", 1, {"a": 1}]:
                self.refused(BadLot, {"place": -1}, call, chain, lot)
            for wrong in ["z", "c", None, 1, ["a"], ("a",)]:
                self.refused(BadLot, {"place": 1}, call, chain, ["c", wrong, "z"])
        for place in NO_NUMBERS + [-1, 1]:
            self.refused(BadNumber, {"word": "place"}, even_at, chain, ["c", "a"], place)
            self.refused(BadNumber, {"word": "place"}, fires_ever, chain, place)
        self.told(False, is_lot_of_one, chain, ())


class TestCoverings(Case):
    def fits(self, chain, lot):
        if sum(step in lot for step in chain.marked) != 1:
            return False
        for froms, _, tos in chain.transitions:
            many = sum(step in lot for step in froms)
            if many > 1 or many != sum(step in lot for step in tos):
                return False
        return True

    def test_example(self):
        chain = chain_from(HEAD + "steps a b c d\nmarked a c\nfrom a c -> b d : 1\nfrom b -> a : 1\nfrom d -> c : 1")
        self.assertEqual(len(covering(chain)), 2)
        self.told(True, is_lot_of_one, chain, ("a", "b"))
        self.told(False, is_lot_of_one, chain, ("a", "d"))

    def test_by_chance(self):
        found = 0
        for number in range(150):
            chance = Chance(number)
            steps = [f"s{k}" for k in range(5)]
            parts = []
            for _ in range(3):
                froms = chance.some(steps, 1, 2)
                parts.append((froms, ONE, chance.some(steps, len(froms), len(froms))))
            chain = Chain((), (), steps, chance.some(steps, 1, 2), parts, ())
            lots = [lot for many in range(1, 6) for lot in itertools.combinations(steps, many) if self.fits(chain, lot)]
            least = [many for many in range(1, 6) for some in itertools.combinations(lots, many)
                     if {step for lot in some for step in lot} == set(steps)]
            told = covering(chain)
            if not least:
                self.assertIsNone(told)
                continue
            found += 1
            self.assertEqual(len(told), least[0])
            self.assertTrue(is_tuples(told) and set(told) <= set(lots))
            self.told(True, is_covering, chain, told)
            for lot in told:
                self.assertTrue(is_lot_of_one(chain, lot))
        self.assertGreater(found, 15)

    def test_eight_and_nine_steps(self):
        names = [f"s{k}" for k in range(9)]
        eight = of(" ".join(names[:8]), "s0", *[f"{names[k]} > {names[(k + 1) % 8]}" for k in range(8)])
        self.told((tuple(names[:8]),), covering, eight)
        nine = of(" ".join(names), "s0", *[f"{names[k]} > {names[(k + 1) % 9]}" for k in range(9)])
        self.refused(TooMany, {"limit": 8}, covering, nine)
        self.told(True, is_covering, nine, [names])
        pairs = [f"p{k} > q{k}" for k in range(4)]
        chain = of(" ".join(f"p{k} q{k}" for k in range(4)), " ".join(f"p{k}" for k in range(4)), *pairs)
        self.assertEqual(len(covering(chain)), 4)

    def test_lots_of_one_step(self):
        self.assertEqual(sorted(covering(of("a b", "b a"))), [("a",), ("b",)])
        self.told((("a",),), covering, of("a", "a", "a > a"))
        self.told(None, covering, of("a b", "a", "a > b", "b > a b"))

    def test_is_covering(self):
        chain = of("a b c d", "a c", "a c > b d", "b > a", "d > c")
        for lots, wanted in [([("a", "b"), ["d", "c"]], True), ((("a", "b"), ("c", "d"), ("b", "a")), True), ([("a", "b")], False),
                             ([], False), ([("a", "b"), ("c", "d"), ()], False), ([("a", "b", "c", "d")], False),
                             ([("a", "d"), ("b", "c")], False)]:
            self.told(wanted, is_covering, chain, lots)
        for lots in [None, "a", {("a",): 1}, 1]:
            self.refused(BadLot, {"place": -1}, is_covering, chain, lots)
        for wrong in [None, "ab", ("a", "a"), ("z",), (None,), [["a"]], 1]:
            self.refused(BadLot, {"place": 1}, is_covering, chain, [("a",), wrong, None])


if __name__ == "__main__":
    unittest.main()
