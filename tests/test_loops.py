"""Books around arenas: judged, walked, compared, trimmed."""

import unittest

from guardrungs.arenas import Arena, Game
from guardrungs.around import needless_around, trimmed_around, unlike_around
from guardrungs.chains import Chain
from guardrungs.errors import BadNumber, BadRow, OtherShape, TooMany
from guardrungs.formsof import chain_of, rungs_of, sheet_of
from guardrungs.freest import Freest
from guardrungs.loops import is_asked_guard, is_guard, judge, judge_asked, walk
from guardrungs.machines import Machine, machine_of
from guardrungs.plants import Plant
from guardrungs.rungs import Rungs
from guardrungs.sheets import Sheet
from guardrungs.tables import Table
from guardrungs.wishes import Wish
from tests.checks import NO_BITS, NO_NUMBERS, NO_ROWS, Case, is_tuples
from tests.plain import rows
from tests.plainplants import ArenaChance
from tests.test_needless import attributes, many_parts, plain_left
from tests.test_tables import games

DOOR = Plant(((2, ((0, "a", 1), (1, "b", 0))),), 1, (("level", 0, (1,)),), drivers=(("a", 0, 1),))


def some_book(chance, arena, asked):
    inputs = len(arena.plant.inputs) + (arena.plant.outputs if asked else 0)
    return chance.machine(chance.random.randint(1, 3), inputs, arena.plant.outputs)


def steps_at(arena, book, asked, place):
    """For each ask (told, answer, next standing) at a place (reading, p, standing)."""
    told = []
    for ask in rows(arena.plant.outputs) if asked else [()]:
        answer, behind = book.step(place[2], place[0] + ask)
        told.append(((ask, answer) if asked else (answer,), answer, behind))
    return told


def plain_judge(plain, book, asked, arena):
    """(word, length of a shortest run, what is told) by the words of judge, over all places."""
    if plain.never[0]:
        return ("never", 0, None)
    start = (arena.first, 0, book.start())
    depth, order, follow = {start: 0}, [start], {}
    bad = None
    for place in order:
        follow[place] = set()
        for _, answer, behind in steps_at(arena, book, asked, place):
            r = arena.rows.index(answer)
            if plain.bad[place[1]][r]:
                bad = depth[place] if bad is None else bad
                continue
            for reading, q in plain.arena.table[place[1]][r]:
                other = (reading, q, behind)
                if other not in depth:
                    depth[other] = depth[place] + 1
                    order.append(other)
                if plain.arena.calm(place[1], q):
                    follow[place].add(other)
    if bad is not None:
        return ("bad", bad, None)
    shut = []
    for j, ends in enumerate(plain.ends):
        good = {place for place in order if ends[place[1]]}
        while True:
            more = {place for place in order if place not in good and follow[place] & good}
            if not more:
                break
            good |= more
        shut += [(depth[place], j) for place in order if place not in good]
    return ("good", 0, None) if not shut else ("shut",) + min(shut)


def follow_run(test, arena, book, asked, run):
    """Hold each step of the run against the words of [124]; the place behind it."""
    place = (arena.first, 0, book.start())
    for step in run:
        test.assertEqual(len(step), 4 if asked else 3)
        ask = step[0] if asked else ()
        answer, behind = book.step(place[2], place[0] + ask)
        test.assertEqual(answer, step[-3])
        test.assertIn(step[-2:], arena.moves(place[1], answer))
        place = step[-2:] + (behind,)
    return place


class TestJudge(Case):
    def check(self, game, plain, book, asked):
        arena = game.arena
        told = (judge_asked if asked else judge)(game, book)
        wanted = plain_judge(plain, book, asked, arena)
        self.assertEqual(told[0], wanted[0])
        self.assertIs((is_asked_guard if asked else is_guard)(game, book), told[0] == "good")
        word, run, last = told
        self.assertTrue(is_tuples(told))
        self.assertEqual(len(run), wanted[1])
        reading, p, standing = follow_run(self, arena, book, asked, run)
        if word in ("never", "good"):
            self.assertEqual(told, (word, (), None))
        elif word == "shut":
            self.assertEqual(last, wanted[2])
            self.assertNotEqual(arena.plant_standing(p), None)
        else:
            ask, row = last if asked else ((), last)
            self.assertEqual(book.step(standing, reading + ask)[0], row)
            self.assertTrue(game.bad(p, row))
        return word

    def test_by_chance(self):
        for asked in (False, True):
            met = {}
            for chance, game, plain in games(141 + asked, 250):
                for _ in range(3):
                    word = self.check(game, plain, some_book(chance, game.arena, asked), asked)
                    met[word] = met.get(word, 0) + 1
            self.assertEqual(set(met), {"never", "bad", "shut", "good"})
            self.assertGreater(min(met.values()), 15)

    def test_deep_runs(self):
        # A line with an end that the book leaves only after many readings.
        line = Plant(((6, tuple((s, "go", s + 1) for s in range(5))),), 1, (("level", 0, (3,)),), drivers=(("go", 0, 1),))
        arena = Arena(line, 0, 1)
        go = Rungs(("x",), ("y",), (), ((("bit", 1), (("put", "y"),)),))
        self.assertEqual(judge(Game(arena, Wish((((0, 5),),), ())), go)[0], "bad")
        self.assertEqual(len(judge(Game(arena, Wish((((0, 5),),), ())), go)[1]), 4)
        stop = Rungs(("x",), ("y",), ("c",), ((("name", "x"), (("set", "c"),)), (("not", ("name", "c")), (("put", "y"),))))
        ends = ((((0, 0),), ((0, 2),)), (((0, 4),),), (((0, 3),),))
        told = judge(Game(arena, Wish((((0, 5),),), ends)), stop)
        # Behind three steps end 0 is out of reach, and so is end 1 then; ahead of that nothing is.
        self.assertEqual((told[0], len(told[1]), told[2]), ("shut", 0, 1))
        told = judge(Game(arena, Wish((((0, 5),),), ends[:1] + ends[2:])), stop)
        self.assertEqual((told[0], len(told[1]), told[2]), ("shut", 3, 0))
        self.assertEqual(judge(Game(arena, Wish((((0, 5),),), ends[2:])), stop), ("good", (), None))

    def test_books_of_all_forms(self):
        for chance, game, plain in games(143, 20):
            book = some_book(chance, game.arena, False)
            for other in (rungs_of(book), sheet_of(book), chain_of(book)):
                self.assertEqual(self.check(game, plain, other, False), judge(game, book)[0])

    def test_plants_without_outputs(self):
        door = Plant(((2, ((0, "a", 1), (1, "b", 0))),), 0, (("level", 0, (1,)),))
        book = Machine(("x",), (), [[((), 0)] * 2])
        for never in ((), (((0, 1),),)):
            game = Game(Arena(door, 0, 1), Wish(never, ()))
            word = "bad" if never else "good"
            self.assertEqual((judge(game, book)[0], judge_asked(game, book)[0]), (word, word))
        self.told(("bad", (), ()), judge, game, book)
        self.told(("bad", (), ((), ())), judge_asked, game, book)
        self.told((((), (1,), 1),), walk, Arena(door, 0, 1), book, (1,))
        self.told(None, unlike_around, Arena(door, 0, 1), book, book)

    def test_other_shape(self):
        game = Game(Arena(DOOR, 0, 1), Wish((), ()))
        plain, asked = Machine.of_rows(1, 1, [[((0,), 0)] * 2]), Machine.of_rows(2, 1, [[((0,), 0)] * 4])
        for wrong in (asked, Machine.of_rows(1, 0, [[((), 0)] * 2]), Machine.of_rows(0, 1, [[((0,), 0)]])):
            self.refused(OtherShape, {}, judge, game, wrong)
            self.refused(OtherShape, {}, is_guard, game, wrong)
        for wrong in (plain, Machine.of_rows(2, 0, [[((), 0)] * 4])):
            self.refused(OtherShape, {}, judge_asked, game, wrong)
            self.refused(OtherShape, {}, is_asked_guard, game, wrong)
        never = Game(game.arena, Wish(((),), ()))
        self.refused(OtherShape, {}, judge, never, asked)
        none = Machine.of_rows(3, 1, [[((0,), 0)] * 8])
        self.refused(OtherShape, {}, walk, game.arena, none, -1)
        for wrong in (none, asked):
            self.refused(OtherShape, {}, unlike_around, game.arena, plain, wrong)
            self.refused(OtherShape, {}, unlike_around, game.arena, wrong, plain)
        self.refused(OtherShape, {}, unlike_around, game.arena, none, none)
        self.refused(OtherShape, {}, needless_around, game.arena, rungs_of(none))
        self.refused(OtherShape, {}, trimmed_around, game.arena, rungs_of(none), None)

    def counting(self, standings):
        """A book that counts its readings; the output is 1 from the last standing on."""
        last = standings - 1
        return Machine.of_rows(0, 1, [[((1 if s == last else 0,), (s + 1) % standings)] for s in range(standings)])

    def test_limit(self):
        # A ring of many standings beside a book of many: as many places as pairs.
        for many, standings in ((200, 100), (177, 113)):
            arrows = tuple((s, "on", (s + 1) % many) for s in range(many)) + ((0, "off", 0),)
            plant = Plant(((many, arrows),), 1, (), drivers=(("off", 0, 1),))
            game = Game(Arena(plant, 0, 1), Wish((), ()))
            plain = self.counting(standings)
            asked = Machine.of_rows(1, 1, [[((s % 2,), (s + 1) % standings)] * 2 for s in range(standings)])
            for call, yes, book in ((judge, is_guard, plain), (judge_asked, is_asked_guard, asked)):
                if many * standings == 20000:
                    self.told(("good", (), None), call, game, book)
                    self.told(True, yes, game, book)
                else:
                    self.assertEqual(many * standings, 20001)
                    self.refused(TooMany, {"limit": 20000}, call, game, book)
                    self.refused(TooMany, {"limit": 20000}, yes, game, book)

    def test_the_limit_counts_up_to_the_shortest_bad_run(self):
        # Behind n steps 1 + 2 + .. + (n + 1) places; the book is bad behind 198 or 199 of them.
        line = Plant(((300, tuple((s, "on", s + 1) for s in range(299))), (2, ((0, "off", 1),))), 1, (),
                     drivers=(("off", 0, 1),))
        game = Game(Arena(line, 0, 1), Wish((((1, 1),),), ()))
        told = judge(game, self.counting(199))
        self.assertEqual((told[0], len(told[1]), told[2]), ("bad", 198, (1,)))
        self.refused(TooMany, {"limit": 20000}, judge, game, self.counting(200))
        never = Game(game.arena, Wish(((),), ()))
        self.told(("never", (), None), judge, never, self.counting(499))


class TestWalk(Case):
    def test_walk(self):
        for chance, game, _ in games(144, 80):
            for asked in (False, True):
                if asked and game.arena.plant.outputs == 0:
                    continue
                book = some_book(chance, game.arena, asked)
                outputs = game.arena.plant.outputs
                picks = [chance.random.randint(0, 30) for _ in range(12)]
                asks = list(chance.readings(outputs, chance.pick([0, 5, 12, 15])))
                run = walk(game.arena, book, picks, asks=asks)
                self.told(run, walk, game.arena, book, tuple(picks), asks=[list(ask) for ask in asks])
                self.assertEqual(len(run), 12)
                now = (game.arena.first, 0, book.start())
                for at, step in enumerate(run):
                    ask = (asks[at] if at < len(asks) else (0,) * outputs) if asked else ()
                    answer, behind = book.step(now[2], now[0] + ask)
                    moves = game.arena.moves(now[1], answer)
                    move = moves[picks[at] % len(moves)]
                    self.assertEqual(step, ((ask, answer) if asked else (answer,)) + move)
                    now = move + (behind,)
        self.told((), walk, game.arena, book, ())

    def test_wrong(self):
        arena = Arena(DOOR, 0, 1)
        book = Machine.of_rows(1, 1, [[((0,), 0)] * 2])
        for wrong in [None, 3, "01", {0: 1}, (0, -1)] + [(0, one) for one in NO_NUMBERS]:
            self.refused(BadNumber, {"word": "picks"}, walk, arena, book, wrong, asks=None)
        for wrong in NO_ROWS:
            self.refused(BadRow, {"place": -1}, walk, arena, book, (0,), asks=wrong)
            self.refused(BadRow, {"place": -1}, walk, arena, book, (), asks=[(0,), wrong])
        for wrong in NO_BITS:
            self.refused(BadRow, {"place": 0}, walk, arena, book, (), asks=((wrong,),))
        self.refused(BadRow, {"place": -1}, walk, arena, book, (), asks=((0, 0),))


class TestAround(Case):
    def plain_unlike(self, arena, book, other, asked):
        """The length of a shortest run of both behind which they answer unlike; None if there is none."""
        start = (arena.first, 0, book.start(), other.start())
        met, now, many = {start}, [start], 0
        while now:
            following = []
            for reading, p, one, two in now:
                for ask in rows(arena.plant.outputs) if asked else [()]:
                    answer, behind = book.step(one, reading + ask)
                    other_answer, other_behind = other.step(two, reading + ask)
                    if answer != other_answer:
                        return many
                    for x, q in arena.moves(p, answer):
                        if (x, q, behind, other_behind) not in met:
                            met.add((x, q, behind, other_behind))
                            following.append((x, q, behind, other_behind))
            now, many = following, many + 1
        return None

    def check(self, arena, book, other, asked):
        wanted = self.plain_unlike(arena, book, other, asked)
        told = unlike_around(arena, book, other)
        if wanted is None:
            self.assertIsNone(told)
            return None
        self.assertEqual(len(told), wanted)
        self.assertTrue(is_tuples(told))
        reading, p, standing = follow_run(self, arena, book, asked, told)
        self.assertEqual((reading, p), follow_run(self, arena, other, asked, told)[:2])
        behind = follow_run(self, arena, other, asked, told)[2]
        asks = rows(arena.plant.outputs) if asked else [()]
        self.assertTrue(any(book.step(standing, reading + ask)[0] != other.step(behind, reading + ask)[0] for ask in asks))
        return wanted

    def test_unlike(self):
        met = {}
        for chance, game, _ in games(145, 200):
            for asked in (False, True):
                if asked and game.arena.plant.outputs == 0:
                    continue
                book = some_book(chance, game.arena, asked)
                for other in (some_book(chance, game.arena, asked), rungs_of(book)):
                    told = self.check(game.arena, book, other, asked)
                    met[told] = met.get(told, 0) + 1
        self.assertGreater(len(met), 1)
        self.assertGreater(met[None], 50)

    def test_late(self):
        line = Plant(((6, tuple((s, "go", s + 1) for s in range(5))),), 1, (("level", 0, (5,)),), drivers=(("go", 0, 1),))
        go = Rungs(("x",), ("y",), (), ((("bit", 1), (("put", "y"),)),))
        till = Rungs(("x",), ("y",), (), ((("not", ("name", "x")), (("put", "y"),)),))
        self.assertEqual(self.check(Arena(line, 0, 1), go, till, False), 5)
        self.assertEqual(self.check(Arena(line, 0, 2), go, till, False), 3)
        # Alike around the arena, though not alike.
        self.assertIsNone(unlike_around(Arena(line, 0, 0), go, till))

    def plain_needless(self, arena, book):
        told = []
        for part in range(many_parts(book)):
            if isinstance(book, Sheet) and book.blocks[part][1] == "zero":
                continue
            if unlike_around(arena, book, plain_left(book, part)) is None:
                told.append(part)
        return tuple(told)

    def plain_trimmed(self, arena, book, order):
        numbers = list(range(many_parts(book)))
        whole = list(order) + [part for part in numbers if part not in order]
        while True:
            needless = [numbers[place] for place in self.plain_needless(arena, book)]
            first = [part for part in whole if part in needless]
            if not first:
                return book
            place = numbers.index(first[0])
            book = plain_left(book, place)
            if not isinstance(book, Sheet):
                del numbers[place]

    def test_needless_and_trimmed(self):
        many, tried = 0, 0
        for chance, game, _ in games(146, 40):
            arena = game.arena
            for asked in (False, True):
                if asked and arena.plant.outputs == 0:
                    continue
                book = some_book(chance, arena, asked)
                inputs, outputs = len(book.inputs), len(book.outputs)
                for one in (rungs_of(book), sheet_of(book), chain_of(book),
                            chance.rungs(rungs=5, inputs=inputs, outputs=outputs, cells=1, deep=2)):
                    wanted = self.plain_needless(arena, one)
                    self.told(wanted, needless_around, arena, one)
                    order = chance.some(range(many_parts(one)), 0, 3)
                    told = trimmed_around(arena, one, order)
                    self.assertIs(type(told), type(one))
                    self.assertEqual(attributes(told), attributes(self.plain_trimmed(arena, one, order)))
                    self.assertEqual(attributes(trimmed_around(arena, one)), attributes(self.plain_trimmed(arena, one, ())))
                    self.assertIsNone(unlike_around(arena, one, told))
                    many += len(wanted) > 0
                    tried += 1
        self.assertGreater(many, 30)
        self.assertGreater(tried, 100)

    def test_no_limits(self):
        # A book with more than ten inputs and more than 2000 standings; a ring of 600 standings.
        door = Plant(((2, ((0, "a", 1), (1, "b", 0))),), 1, tuple(("level", 0, (k % 2,)) for k in range(11)),
                     drivers=(("a", 0, 1),))
        book = Rungs(tuple(f"i{k}" for k in range(11)), ("y",), ("c",), (
            (("not", ("name", "i3")), (("put", "y"),)), (("rise", "i10"), (("put", "c"),))))
        self.told((1,), needless_around, Arena(door, 0, 1), book)
        self.assertEqual(trimmed_around(Arena(door, 0, 1), book).rungs, book.rungs[:1])
        ring = Plant(((600, tuple((s, "on", (s + 1) % 600) for s in range(600))),), 1, ())
        counting = Machine.of_rows(0, 1, [[((0,), (s + 1) % 49)] for s in range(49)])
        still = Machine.of_rows(0, 1, [[((0,), 0)]])
        self.told(None, unlike_around, Arena(ring, 0, 1), counting, still)

    def test_wrong_order(self):
        arena = Arena(DOOR, 0, 1)
        book = Rungs(("x",), ("y",), (), ((("name", "x"), (("put", "y"),)),) * 2)
        for wrong in [None, "01", 3, (2,), (-1,), (0, 0)] + [(one,) for one in NO_NUMBERS]:
            self.refused(BadNumber, {"word": "order"}, trimmed_around, arena, book, wrong)

    def test_parts_of_guards(self):
        # Without the needless parts the freest guard, written as rungs, is as good as before.
        tried = 0
        for chance, game, _ in games(147, 120, waits=False, faults=False):
            table = Table(game)
            if not table.guards or len(game.arena.plant.inputs) + game.arena.plant.outputs > 3:
                continue
            machine = machine_of(Freest(table))
            if len(machine) > 12:
                continue
            tried += 1
            book = chain_of(machine) if tried % 2 else rungs_of(machine)
            told = trimmed_around(game.arena, book)
            self.assertIs(type(told), Chain if tried % 2 else Rungs)
            self.assertTrue(is_asked_guard(game, told) if game.arena.plant.outputs else is_guard(game, told))
            if tried == 12:
                break
        self.assertEqual(tried, 12)


if __name__ == "__main__":
    unittest.main()
