"""Standings at which a running machine may be changed, maps, moments, changed machines."""

import itertools
import unittest

from guardrungs.arenas import Arena, Game
from guardrungs.errors import BadNumber, BadRow, NoMap, OtherShape, TooMany
from guardrungs.formsof import chain_of, rungs_of, sheet_of
from guardrungs.joining import Beside
from guardrungs.keptbits import is_map, least_kept, map_by, standing_codes, torn_kept
from guardrungs.least import told_apart
from guardrungs.machines import Machine, machine_of
from guardrungs.plants import Plant
from guardrungs.rightness import (
    common_rights, keeping_from, keeping_rights, like_rights, loop_smooth, places_behind, smooth_rights)
from guardrungs.safemoments import Changed, unsafe_row, unsafe_within, unsafe_within_loop
from guardrungs.wishes import Wish
from tests.checks import NO_BITS, NO_NUMBERS, NO_ROWS, Case, is_tuples
from tests.plain import Chance, rows
from tests.plaincycles import CycleChance, longest_row
from tests.plainplants import PlainGame
from tests.test_tables import DOOR


def reached(machine):
    met, left = {0}, [0]
    for s in left:
        for _, behind in machine.rows[s]:
            if behind not in met:
                met.add(behind)
                left.append(behind)
    return met


def both_alike(old, s, new, t, inputs):
    """By going through pairs."""
    met, left = {(s, t)}, [(s, t)]
    for a, b in left:
        for (answer, behind), (other, following) in zip(old.rows[a], new.rows[b]):
            if answer != other:
                return False
            if (behind, following) not in met:
                met.add((behind, following))
                left.append((behind, following))
    return True


def places_told(plain, old):
    """The places behind, as met, by the words of [183]."""
    def behind(x, p, s):
        answer, following = old(s, x)
        return (p, answer, following)
    told = [behind(plain.first, 0, 0)]
    for p, y, s in told:
        for x, q in plain.table[p][plain.rows.index(y)]:
            place = behind(x, q, s)
            if place not in told:
                told.append(place)
    return told


def good_loop(game, new, x, q, t):
    """By following all runs of the loop; game is a PlainGame."""
    arena = game.arena
    if game.never[q]:
        return False
    places, follows, calm = [(x, q, t)], {}, {}
    for place in places:
        y, p, s = place
        answer, behind = new(s, y)
        row = arena.rows.index(answer)
        if game.bad[p][row]:
            return False
        follows[place] = [(z, r, behind) for z, r in arena.table[p][row]]
        calm[place] = [one for one in follows[place] if arena.calm(p, one[1])]
        places.extend(one for one in follows[place] if one not in places)
    for end in game.ends:
        good = {place for place in places if end[place[1]]}
        while True:
            more = {place for place in places if place not in good and any(one in good for one in calm[place])}
            if not more:
                break
            good |= more
        if len(good) < len(set(places)):
            return False
    return True


def cases(number, many, **more):
    chance = CycleChance(number)
    for at in range(many):
        told = dict(inputs=at % 3, outputs=at % 2 + (at % 3 == 0), most_standings=12, faults=0.3, waits=0.2)
        told.update(more)
        game, plain = chance.lively_game(**told)
        plant = game.arena.plant
        old = chance.machine(chance.random.randint(1, 4), len(plant.inputs), plant.outputs)
        new = sticky(chance, chance.random.randint(1, 4), len(plant.inputs), plant.outputs)
        yield chance, game, plain, old, new


def sticky(chance, many, inputs, outputs):
    """A machine whose standings mostly stay and answer alike."""
    told = []
    for s in range(many):
        answer = chance.reading(outputs)
        told.append([(answer if chance.random.random() < 0.8 else chance.reading(outputs),
                      s if chance.random.random() < 0.8 else chance.random.randrange(many)) for _ in range(1 << inputs)])
    return Machine.of_rows(inputs, outputs, told)


class TestRights(Case):
    def test_like_and_smooth(self):
        chance, met = Chance(421), {"like": 0, "smooth": 0, "none": 0, "not": 0, "more": 0}
        for number in range(200):
            inputs, outputs = number % 3, 1 - number % 5 // 4
            old = chance.machine(chance.random.randint(1, 5), inputs, outputs)
            new = chance.machine(chance.random.randint(1, 5), inputs, outputs)
            if number % 2:
                # Some standings of old, numbered otherwise, and some of new.
                many, more = len(old), len(new)
                new = Machine.of_rows(inputs, outputs, [[(y, more + b) for y, b in old.rows[s]] if s >= 0 else row
                                                       for s, row in [(-1, row) for row in new.rows]] + [
                    [(y, more + b) for y, b in row] for row in old.rows])
                self.assertEqual(len(new), many + more)
            come = reached(old)
            like = tuple(tuple(t for t in range(len(new)) if both_alike(old, s, new, t, inputs)) if s in come else None
                         for s in range(len(old)))
            smooth = tuple(tuple(t for t in range(len(new)) if all(a[0] == b[0] for a, b in zip(old.rows[s], new.rows[t])))
                           if s in come else None for s in range(len(old)))
            self.told(like, like_rights, old, new)
            self.told(smooth, smooth_rights, old, new)
            self.told(like, common_rights, like, smooth)
            self.told(like, common_rights, smooth, like)
            for s in come:
                self.assertTrue(set(like[s]) <= set(smooth[s]))
                met["like"] += bool(like[s])
                met["smooth"] += len(smooth[s]) > len(like[s])
                met["none"] += not like[s]
                # If some standing is like the start, each has a like one.
                self.assertTrue(not like[0] or like[s])
            met["not"] += None in like
            met["more"] += any(row is not None and len(row) > 1 for row in like)
            for s in range(len(old)):
                for t in range(len(old)):
                    self.assertIs(told_apart(old, s, t) is None, both_alike(old, s, old, t, inputs))
        self.assertGreater(min(met.values()), 20, met)

    def test_one_behind_the_other(self):
        """[182]: like changes one behind the other are a like change, smooth ones a smooth one."""
        chance, met = Chance(429), 0
        for _ in range(60):
            one = chance.machine(3, 1, 1)
            two, three = [Machine.of_rows(1, 1, [row for row in one.rows] + [row for row in one.rows]) for _ in range(2)]
            for rights in (like_rights, smooth_rights):
                first, second, both = rights(one, two), rights(two, three), rights(one, three)
                for s, row in enumerate(first):
                    for t in row or ():
                        for u in second[t] or ():
                            self.assertIn(u, both[s])
                            met += 1
            # Changed at a like standing at any moment, nothing is seen in the answers.
            like = like_rights(one, two)
            turn = [-1 if row is None else row[-1] for row in like]
            readings = chance.readings(1, 10)
            for since in (0, 1, 4):
                self.assertEqual(Changed(one, two, turn, since=since).run(readings), one.run(readings))
        self.assertGreater(met, 100)

    def test_common(self):
        self.told(((1,), None, None, (), None), common_rights, ((0, 1, 2), None, (1,), (0,), None),
                  ((1, 3), (1,), None, (1,), None))
        self.told((), common_rights, (), ())
        self.refused(OtherShape, {}, common_rights, ((),), ())
        self.refused(OtherShape, {}, common_rights, (), (None,))

    def test_around_an_arena(self):
        met = {"smooth": 0, "keeping": 0, "not": 0, "none": 0, "all": 0}
        for chance, game, plain, old, new in cases(422, 220, driven=1.0, outputs=1):
            arena = game.arena
            places = places_told(plain.arena, old)
            self.told(tuple(places), places_behind, arena, old)
            smooth, keeping = [], []
            for s in range(len(old)):
                moves = {move for p, y, r in places if r == s for move in plain.arena.table[p][arena.rows.index(y)]}
                if not any(r == s for _, _, r in places):
                    smooth.append(None)
                    keeping.append(None)
                    continue
                smooth.append(tuple(t for t in range(len(new)) if all(old(s, x)[0] == new(t, x)[0] for x, _ in moves)))
                keeping.append(tuple(t for t in range(len(new)) if all(
                    good_loop(plain, new, x, q, t) for x, q in moves)))
            self.told(tuple(smooth), loop_smooth, arena, old, new)
            self.told(tuple(keeping), keeping_rights, game, old, new)
            for p, x in itertools.product(range(len(arena)), rows(len(arena.plant.inputs))):
                t = chance.random.randrange(len(new))
                self.told(good_loop(plain, new, x, p, t), keeping_from, game, new, p, list(x), t)
            for row, other in zip(smooth, keeping):
                met["not"] += row is None
                met["smooth"] += bool(row)
                met["none"] += other == ()
                met["keeping"] += bool(other) and len(other) < len(new)
                met["all"] += other is not None and len(other) == len(new)
        self.assertGreater(min(met.values()), 20, met)

    def test_without_moves_to_come(self):
        still = Plant(((1, ()),), 0, ())
        one = Machine.of_rows(0, 0, [[((), 0)]])
        two = Machine.of_rows(0, 0, [[((), 1)], [((), 0)]])
        game = Game(Arena(still, 0, 0), Wish((), ()))
        self.told(((0, (), 0),), places_behind, game.arena, one)
        self.told(((0, (), 1), (0, (), 0)), places_behind, game.arena, two)
        self.told(((0,), (0,)), keeping_rights, game, two, one)
        self.told(((), ()), keeping_rights, Game(game.arena, Wish(((),), ())), two, one)
        self.told(((), ()), keeping_rights, Game(game.arena, Wish((), ((),))), two, one)

    def counting(self, many, tail=0):
        return Machine.of_rows(0, 0, [[((), s + 1 if s + 1 < many else tail)] for s in range(many)])

    def test_limit(self):
        plant = Plant(((32, tuple((s, "on", (s + 1) % 32) for s in range(32))),), 0, ())
        arena = Arena(plant, 1, 1)
        game = Game(arena, Wish((), ()))
        old, new = self.counting(625), self.counting(1)
        self.assertEqual(len(places_behind(arena, old)), 20000)
        self.assertEqual(loop_smooth(arena, old, new), ((0,),) * 625)
        self.assertEqual(keeping_rights(game, old, new), ((0,),) * 625)
        rights = tuple(() if s in (3, 4, 5) else (0,) for s in range(625))
        self.told(3, unsafe_within_loop, arena, old, rights)
        tail = Plant(((33, tuple((s, "on", s + 1 if s < 32 else 1) for s in range(33))),), 0, ())
        for call, args in ((places_behind, (old,)), (loop_smooth, (old, new)), (unsafe_within_loop, (old, rights))):
            self.refused(TooMany, {"limit": 20000}, call, Arena(tail, 1, 1), *args)
        self.refused(TooMany, {"limit": 20000}, keeping_rights, Game(Arena(tail, 1, 1), Wish((), ())), old, new)
        # Places of the loops of new do not count.
        self.assertEqual(keeping_rights(Game(Arena(tail, 1, 1), Wish((), ())), new, old), (tuple(range(625)),))

    def test_wrong(self):
        door = Arena(DOOR, 0, 1)
        game = Game(door, Wish((), ()))
        right = Machine.of_rows(1, 1, [[((0,), 0)] * 2])
        for wrong in (Machine.of_rows(2, 1, [[((0,), 0)] * 4]), Machine.of_rows(1, 0, [[((), 0)] * 2])):
            for old, new in ((wrong, right), (right, wrong)):
                self.refused(OtherShape, {}, like_rights, old, new)
                self.refused(OtherShape, {}, smooth_rights, old, new)
                self.refused(OtherShape, {}, loop_smooth, door, old, new)
                self.refused(OtherShape, {}, keeping_rights, game, old, new)
            self.refused(OtherShape, {}, loop_smooth, door, wrong, wrong)
            self.refused(OtherShape, {}, keeping_rights, game, wrong, wrong)
            self.refused(OtherShape, {}, places_behind, door, wrong)
            self.refused(OtherShape, {}, keeping_from, game, wrong, -1, None, -1)
        for wrong in [2, -1] + NO_NUMBERS:
            self.refused(BadNumber, {"word": "q"}, keeping_from, game, right, wrong, None, None)
        for wrong in [1, -1] + NO_NUMBERS:
            self.refused(BadNumber, {"word": "t"}, keeping_from, game, right, 0, (0,), wrong)
        for wrong in NO_ROWS + [(), (0, 0)]:
            self.refused(BadRow, {"place": -1}, keeping_from, game, right, 1, wrong, -1)
        for wrong in NO_BITS:
            self.refused(BadRow, {"place": 0}, keeping_from, game, right, 1, (wrong,), -1)


class TestMaps(Case):
    def random_case(self, chance):
        many, width, right = chance.random.randint(1, 6), chance.random.randint(0, 4), chance.random.randint(1, 3)
        codes = tuple(tuple(chance.random.randint(0, 2) for _ in range(width)) for _ in range(many))
        rights = tuple(None if chance.random.random() < 0.2 else tuple(sorted(chance.some(range(right), 0 if
                       chance.random.random() < 0.1 else 1, right))) for _ in range(many))
        return codes, rights, width

    def parts(self, codes, rights, columns):
        told = {}
        for s, right in enumerate(rights):
            if right is not None:
                told.setdefault(tuple(codes[s][c] for c in columns), []).append(s)
        return told

    def common(self, rights, standings):
        return sorted(set.intersection(*[set(rights[s]) for s in standings]))

    def test_by_chance(self):
        chance, met = Chance(423), {"map": 0, "none": 0, "two": 0, "torn": 0, "empty": 0}
        for _ in range(300):
            codes, rights, width = self.random_case(chance)
            good = []
            for size in range(width + 1):
                for columns in itertools.combinations(range(width), size):
                    parts = self.parts(codes, rights, columns)
                    commons = {kept: self.common(rights, row) for kept, row in parts.items()}
                    if all(commons.values()):
                        good.append(columns)
                        told = tuple((kept, commons[kept][0]) for kept in sorted(parts))
                        self.told(told, map_by, codes, rights, columns)
                        self.told(told, map_by, codes, rights, list(columns))
                        self.told(None, torn_kept, codes, rights, columns)
                        for other in itertools.islice(itertools.product(*[commons[kept] for kept in sorted(parts)]), 5):
                            pairs = tuple(zip(sorted(parts), other))
                            self.told(True, is_map, codes, rights, columns, pairs)
                            self.told(True, is_map, codes, rights, columns, list(pairs))
                            self.broken_maps(codes, rights, columns, pairs, commons)
                        met["map"] += 1
                    else:
                        self.refused(NoMap, {}, map_by, codes, rights, columns)
                        torn = self.told(torn_kept(codes, rights, columns), torn_kept, codes, rights, columns)
                        self.assertEqual(torn, tuple(sorted(set(torn))))
                        self.assertEqual(len({tuple(codes[s][c] for c in columns) for s in torn}), 1)
                        self.assertEqual(self.common(rights, torn), [])
                        for s in torn:
                            less = [r for r in torn if r != s]
                            self.assertTrue(not less or self.common(rights, less))
                        met["none"] += 1
                        met["torn"] += len(torn) > 1
            least = tuple(sorted(one for one in good if not any(set(other) < set(one) for other in good)))
            self.told(least, least_kept, codes, rights)
            for columns in good:
                for more in range(width):
                    self.assertIn(tuple(sorted(set(columns) | {more})), good)
            looked = [code for code, right in zip(codes, rights) if right is not None]
            for column in range(width):
                if len({code[column] for code in looked}) < 2:
                    self.assertFalse(any(column in columns for columns in least))
            met["two"] += len(least) > 1
            met["empty"] += not least
        self.assertGreater(min(met.values()), 10, met)

    def broken_maps(self, codes, rights, columns, pairs, commons):
        for wrong in (pairs + pairs[:1], pairs[:-1], pairs[::-1], pairs + (((9,) * len(columns), 0),)):
            if wrong != pairs:
                self.told(False, is_map, codes, rights, columns, wrong)
        for at, (kept, t) in enumerate(pairs):
            for other in (t + 1, -1, 99, True, None, "0"):
                right = type(other) is int and other in commons[kept]
                self.told(right, is_map, codes, rights, columns, pairs[:at] + ((kept, other),) + pairs[at + 1:])
            for pair in (None, (kept,), [kept, t], (list(kept), t), (kept + (0,), t), (kept, t, 0)):
                self.told(False, is_map, codes, rights, columns, pairs[:at] + (pair,) + pairs[at + 1:])

    def test_edges(self):
        self.told(((),), least_kept, ((),), (None,))
        self.told((), map_by, ((0,), (1,)), (None, None), ())
        self.told((((), 2),), map_by, ((),), ((2, 3),), ())
        self.told((), least_kept, ((1, 2),), ((),))
        self.told((0,), torn_kept, ((1, 2),), ((),), (0, 1))
        eight = tuple(tuple(1 if k == s else 0 for k in range(8)) + (5,) for s in range(8))
        self.told(tuple((k,) for k in range(8)) and ((),), least_kept, eight, ((0,),) * 8)
        apart = least_kept(eight, tuple((s,) for s in range(8)))
        self.assertEqual(len(apart), 8)
        self.assertTrue(all(len(columns) == 7 for columns in apart))
        nine = tuple(tuple(1 if k == s else 0 for k in range(9)) for s in range(9))
        self.refused(TooMany, {"limit": 8}, least_kept, nine, ((0,),) * 9)
        # One standing is not looked at, so that a column does not differ.
        self.told(((),), least_kept, nine, ((0,),) * 8 + (None,))
        self.told(None, is_map(((0,),), ((1,),), (), (((), 1),)) and (lambda: None))

    def test_wrong(self):
        codes, rights = ((0, 1), (1, 1)), ((0,), (0, 1))
        for call, args in ((map_by, (None,)), (is_map, (None, None)), (torn_kept, (None,)), (least_kept, ())):
            self.refused(OtherShape, {}, call, codes, rights[:1], *args)
            self.refused(OtherShape, {}, call, codes, rights + rights, *args)
        for wrong in [None, 3, "0", (2,), (-1,), (1, 0), (0, 0)] + [(one,) for one in NO_NUMBERS]:
            self.refused(BadNumber, {"word": "columns"}, map_by, codes, rights, wrong)
            self.refused(BadNumber, {"word": "columns"}, is_map, codes, rights, wrong, None)
            self.refused(BadNumber, {"word": "columns"}, torn_kept, codes, rights, wrong)
        for wrong in (None, 3, "ab", {}, (None,)):
            self.told(False, is_map, codes, rights, (0,), wrong)

    def test_codes(self):
        chance = Chance(424)
        for number in range(40):
            book = [chance.rungs, chance.sheet, chance.chain][number % 3]()
            machine = machine_of(book)
            codes = standing_codes(book)
            self.assertTrue(is_tuples(codes))
            self.assertEqual(len(codes), len(machine))
            self.assertEqual(codes[0], book.start())
            for s, row in enumerate(machine.rows):
                for number_read, (answer, behind) in enumerate(row):
                    reading = rows(len(book.inputs))[number_read]
                    self.assertEqual(book.step(codes[s], reading), (answer, codes[behind]))
        wide = Machine.of_rows(11, 0, [[((), 0)] * 2048])
        self.refused(TooMany, {"limit": 10}, standing_codes, wide)
        for many in (2000, 2001):
            long = Machine.of_rows(0, 0, [[((), (s + 1) % many)] for s in range(many)])
            if many == 2000:
                self.assertEqual(len(standing_codes(long)), 2000)
            else:
                self.refused(TooMany, {"limit": 2000}, standing_codes, long)


class TestMoments(Case):
    def rights(self, chance, old):
        return tuple(chance.pick((None, (), (), (0,), (0, 1))) for _ in old.rows)

    def test_by_chance(self):
        chance, met = Chance(425), {"none": 0, "zero": 0, "some": 0, "ring": 0}
        for number in range(300):
            old = chance.machine(chance.random.randint(1, 6), number % 3, 1)
            rights = self.rights(chance, old)
            come = reached(old)
            follows = {s: {b for _, b in old.rows[s]} for s in come}
            least = longest_row(follows, lambda s: rights[s] == ())
            self.told(least, unsafe_within, old, rights)
            for n in (0, 1, 2, 5, 40):
                told = self.told(unsafe_row(old, rights, n), unsafe_row, old, rights, n)
                if least is not None and n + 1 > least:
                    self.assertIsNone(told)
                    continue
                readings, others = told
                self.assertEqual(len(others), n)
                s = 0
                for reading in readings:
                    s = old(s, reading)[1]
                for reading in (None,) + others:
                    s = s if reading is None else old(s, reading)[1]
                    self.assertEqual(rights[s], ())
            met["none"] += least is None
            met["zero"] += least == 0
            met["some"] += least is not None and least > 0
            met["ring"] += least is not None and least > 1
        self.assertGreater(min(met.values()), 8, met)

    def test_around(self):
        met = {"none": 0, "zero": 0, "some": 0}
        for chance, game, plain, old, _ in cases(426, 200):
            rights = self.rights(chance, old)
            places = places_told(plain.arena, old)
            follows = {}
            for p, y, s in places:
                follows[p, y, s] = set()
                for x, q in plain.arena.table[p][game.arena.rows.index(y)]:
                    answer, behind = old(s, x)
                    follows[p, y, s].add((q, answer, behind))
            least = longest_row(follows, lambda place: rights[place[2]] == ())
            self.told(least, unsafe_within_loop, game.arena, old, rights)
            met["none" if least is None else "zero" if least == 0 else "some"] += 1
        self.assertGreater(min(met.values()), 15, met)

    def test_wrong(self):
        old = Machine.of_rows(1, 1, [[((0,), 0)] * 2] * 2)
        door = Arena(DOOR, 0, 1)
        for rights in ((), (None,), ((),) * 3):
            self.refused(OtherShape, {}, unsafe_within, old, rights)
            self.refused(OtherShape, {}, unsafe_within_loop, door, old, rights)
            self.refused(OtherShape, {}, unsafe_row, old, rights, -1)
        wrong = Machine.of_rows(0, 1, [[((0,), 0)]])
        self.refused(OtherShape, {}, unsafe_within_loop, door, wrong, ((),))
        for n in [-1] + NO_NUMBERS:
            self.refused(BadNumber, {"word": "n"}, unsafe_row, old, ((), ()), n)
        self.told(((), ()), unsafe_row, old, ((), None), 0)
        self.told(((), ((0,),) * 1000), unsafe_row, old, ((), None), 1000)
        self.told(None, unsafe_row, old, (None, ()), 0)


class TestChanged(Case):
    def run_changed(self, old, new, turn, since, readings):
        """The answers and the standing, by the words of [187]."""
        s, t, told = 0, None, []
        if since == 0 and turn[0] >= 0:
            t = turn[0]
        for number, reading in enumerate(readings, 1):
            if t is not None:
                answer, t = new(t, reading)
            else:
                answer, s = old(s, reading)
                if number >= since and turn[s] >= 0:
                    t = turn[s]
            told.append(answer)
        return tuple(told), (1, t, 0) if t is not None else (0, s, max(since - len(readings), 0))

    def test_by_chance(self):
        chance, met = Chance(427), {"never": 0, "start": 0, "late": 0}
        for number in range(200):
            inputs = number % 3
            old, new = chance.machine(4, inputs, 1), chance.machine(3, inputs, 1)
            turn = [chance.pick((-1, -1, 0, 1, 2)) for _ in range(4)]
            since = chance.pick((0, 0, 1, 2, 5, 60))
            book = Changed(old, new, turn, since=since)
            self.assertEqual((book.inputs, book.outputs), (old.inputs, old.outputs))
            for length in (0, 1, 2, 12):
                readings = chance.readings(inputs, length)
                told = self.run_changed(old, new, turn, since, readings)
                self.told(told, book.run_from, book.start(), readings)
                cut = length // 2
                first, middle = book.run_from(book.start(), readings[:cut])
                self.assertEqual(first + book.run_from(middle, readings[cut:])[0], told[0])
            met["never"] += told[1][0] == 0
            met["start"] += book.start()[0] == 1
            met["late"] += told[1][0] == 1 and since > 1
            machine = machine_of(book)
            self.assertEqual(machine.run(readings), told[0])
            if len(machine) < 40:
                for form in (rungs_of, sheet_of, chain_of):
                    self.assertEqual(form(machine).run(readings), told[0])
            both = Beside(book, old)
            self.assertEqual(both.run([x + x for x in readings]),
                             tuple(a + b for a, b in zip(told[0], old.run(readings))))
        self.assertGreater(min(met.values()), 20, met)

    def test_edges(self):
        still = Machine.of_rows(0, 1, [[((0,), 0)]])
        other = Machine(("x",)[:0], ("q",), [[((1,), 0)]])
        self.assertEqual(Changed(still, other, (0,)).run([()] * 2), ((1,), (1,)))
        self.assertEqual(Changed(still, other, [0], since=1).run([()] * 2), ((0,), (1,)))
        self.assertEqual(Changed(still, other, (0,), since=60).run([()] * 62)[59:], ((0,), (1,), (1,)))
        self.assertEqual(Changed(still, other, (-1,), since=0).run([()] * 3), ((0,),) * 3)
        self.assertEqual(Changed(still, other, (0,), since=60).start(), (0, 0, 60))

    def test_wrong(self):
        old, new = Machine.of_rows(1, 1, [[((0,), 0)] * 2] * 2), Machine.of_rows(1, 1, [[((0,), 0)] * 2])
        for wrong in (Machine.of_rows(2, 1, [[((0,), 0)] * 4]), Machine.of_rows(1, 0, [[((), 0)] * 2])):
            with self.assertRaises(OtherShape):
                Changed(old, wrong, None, since=-1)
            with self.assertRaises(OtherShape):
                Changed(wrong, new, None)
        for wrong in [None, 0, "00", (), (0,), (0, 0, 0), (0, 1), (0, -2)] + [(0, one) for one in NO_NUMBERS]:
            self.refused(BadNumber, {"word": "turn"}, Changed, old, new, wrong, since=61)
        for wrong in [61, -1] + NO_NUMBERS:
            self.refused(BadNumber, {"word": "since"}, Changed, old, new, (0, -1), since=wrong)
        book = Changed(old, new, (0, -1))
        self.refused(BadRow, {"place": -1}, book.step, book.start(), ())
        self.refused(BadRow, {"place": 0}, book.step, book.start(), (2,))

    def test_what_the_rights_are_about(self):
        """[187]: changed at the first moment, within the waiting number, it keeps what its rights are about."""
        met = {"like": 0, "keeping": 0, "late": 0, "smooth": 0}
        for chance, game, plain, old, new in cases(428, 250, waits=0, fallings=((0, 1), (1, 1), (0, 2))):
            arena = game.arena
            like, keeping, smooth = like_rights(old, new), keeping_rights(game, old, new), loop_smooth(arena, old, new)
            for word, rights in (("like", like), ("keeping", keeping), ("smooth", smooth)):
                turn = [-1 if not row else chance.pick(row) for row in rights]
                within = unsafe_within(old, rights) if word == "like" else unsafe_within_loop(arena, old, rights)
                for since in (1, 3):
                    book = Changed(old, new, turn, since=since)
                    p, x, standing, told = 0, arena.first, book.start(), 0
                    for number in range(1, 16):
                        was = standing[0]
                        answer, standing = book.step(standing, x)
                        told += 1
                        if was == 0 and standing[0] == 1:
                            if within is not None:
                                self.assertLessEqual(number, since + within)
                            met["late"] += number > since
                            if word == "keeping":
                                for y, q in arena.moves(p, answer):
                                    self.assertTrue(good_loop(plain, new, y, q, standing[1]))
                                met["keeping"] += 1
                        if word == "like":
                            readings = [chance.reading(len(arena.plant.inputs)) for _ in range(12)]
                            self.assertEqual(book.run(readings), old.run(readings))
                            met["like"] += standing[0] == 1
                        moves = arena.moves(p, answer)
                        x, p = chance.pick(moves)
                    if within is not None and within + since < 15:
                        self.assertEqual(standing[0], 1)
                    met["smooth"] += word == "smooth" and standing[0] == 1
        self.assertGreater(min(met.values()), 10, met)


if __name__ == "__main__":
    unittest.main()
