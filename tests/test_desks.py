"""The desk and its lines."""

import itertools
import unittest

from guardrungs.alarms import Watched
from guardrungs.arenas import Arena, Game
from guardrungs.desks import Desk, Trial
from guardrungs.drums import Drummed, drum_of
from guardrungs.errors import BadNumber, BadRow, Gone, OtherShape, TooMany
from guardrungs.freest import Freest
from guardrungs.joining import Beside, Bent
from guardrungs.known import after, known
from guardrungs.listings import bits_line, history_lines, machine_lines, play_lines, table_lines
from guardrungs.loops import judge
from guardrungs.machines import Machine, machine_of
from guardrungs.plants import Plant
from guardrungs.plays import play_of
from guardrungs.rightness import keeping_from
from guardrungs.rungs import Rungs
from guardrungs.tables import Table
from guardrungs.tasks import Tasks
from guardrungs.wishes import Wish
from tests.checks import NO_BITS, NO_NUMBERS, NO_ROWS, Case, is_tuples
from tests.plaincycles import CycleChance
from tests.test_tables import DOOR

PLANT = Plant(((3, ((0, "a", 1), (0, "d", 2), (1, "b", 0), (2, "e", 1))),), 0, (("level", 0, (1,)),))
TURNS = Arena(PLANT, 1, 1, faults=((0, "stuck0"),), many=1)
DEAF = Machine(("i",), (), ((((), 0), ((), 0)),))


def shown(desk):
    """All that a desk tells."""
    return (desk.book, desk.standing, desk.history, desk.cycles, desk.deeds, desk.lot, desk.is_sure, desk.is_sound,
            desk.bad_now, tuple(desk.may_be(p) for p in range(len(desk.game.arena))), tuple(history_lines(desk)))


def desks(number, many, **more):
    chance = CycleChance(number)
    for at in range(many):
        told = dict(inputs=at % 3, outputs=at % 2 + (at % 5 == 0), most_standings=16, faults=0.5, driven=0.8)
        told.update(more)
        game, plain = chance.lively_game(**told)
        plant = game.arena.plant
        asked = plant.outputs > 0 and at % 4 == 1
        inputs = len(plant.inputs) + (plant.outputs if asked else 0)
        books = [chance.machine(chance.random.randint(1, 4), inputs, plant.outputs) for _ in range(3)]
        yield chance, game, plain, asked, books


class Plain:
    """A desk by the words of [196] to [198]: the deeds are told, and all is worked out anew from them."""

    def __init__(self, plain, book, asked):
        self.plain, self.book, self.asked, self.deeds = plain, book, asked, []

    def told(self):
        """The steps, the book, its standing, the lots; the arena is followed, too."""
        arena = self.plain.arena
        book, standing, steps, lots = self.book, self.book.start(), [], []
        for deed in self.deeds:
            if deed[0] == "change":
                book, standing = deed[1], deed[1].start() if deed[2] is None else deed[2]
                continue
            _, pick, ask = deed
            if not steps:
                reading, p, lot = arena.first, 0, {0}
            else:
                _, last, answer, ahead = steps[-1]
                moves = arena.table[ahead][arena.rows.index(answer)]
                reading, p = moves[pick % len(moves)]
                lot = {q for r in lots[-1] for x, q in arena.table[r][arena.rows.index(answer)] if x == reading}
            answer, standing = book.step(standing, reading + (ask if self.asked else ()))
            steps.append((ask if self.asked else None, reading, answer, p))
            lots.append(tuple(sorted(lot)))
        return tuple(steps), book, standing, lots


class TestDesk(Case):
    def check(self, desk, plain, game):
        steps, book, standing, lots = plain.told()
        sound = [not any(s[2]) for s in plain.plain.arena.standings]
        lot = lots[-1] if lots else (0,)
        self.assertEqual((desk.history, tuple(desk), desk.standing, desk.lot), (steps, steps, standing, lot))
        self.assertIs(desk.book, book)
        self.assertTrue(is_tuples((desk.history, desk.standing, desk.lot)))
        self.assertEqual((desk.cycles, desk.deeds), (len(steps), len(plain.deeds)))
        self.assertIs(desk.is_sure, not any(sound[p] for p in lot))
        self.assertIs(desk.is_sound, all(sound[p] for p in lot))
        bad = bool(steps) and plain.plain.bad[steps[-1][3]][plain.plain.arena.rows.index(steps[-1][2])]
        self.assertIs(desk.bad_now, bad)
        for p in range(len(sound)):
            self.assertIs(desk.may_be(p), p in lot)
        if steps:
            self.assertIn(steps[-1][3], lot)
        words = ["sound" if all(sound[p] for p in one) else "may be" if any(sound[p] for p in one) else "sure"
                 for one in lots]
        lines = []
        for k, (_, reading, answer, _) in enumerate(steps):
            bits = ["".join(map(str, row)) or "-" for row in (reading, answer)]
            lines.append(f"{str(k).rjust(3)} {bits[0]} {bits[1]} {str(len(lots[k])).rjust(3)} {words[k]}")
        self.assertEqual(history_lines(desk), lines)
        self.assertIsInstance(history_lines(desk), list)
        return words

    def test_by_chance(self):
        met = {"asked": 0, "sure": 0, "may be": 0, "sound": 0, "bad": 0, "back": 0, "change": 0}
        for chance, game, plain_game, asked, books in desks(441, 120):
            desk, plain = Desk(game, books[0]), Plain(plain_game, books[0], asked)
            outputs = game.arena.plant.outputs
            self.assertIs(desk.game, game)
            words = self.check(desk, plain, game)
            for _ in range(16):
                kind = chance.random.random()
                if kind < 0.7:
                    pick = chance.random.randrange(40)
                    ask = chance.pick((None, chance.reading(outputs))) if asked else None
                    others = [(chance.random.randrange(9), chance.reading(outputs) if asked else None) for _ in range(3)]
                    before = shown(desk)
                    tried = desk.tried([[pick, ask]] + others)
                    self.assertEqual(shown(desk), before)
                    given = list(ask) if ask is not None else None
                    answer = desk.cycle(pick, ask=given) if asked else desk.cycle(pick)
                    plain.deeds.append(("cycle", pick, (0,) * outputs if ask is None else ask))
                    self.assertEqual(answer, plain.told()[0][-1][2])
                    self.assertTrue(is_tuples(tried))
                    branch = desk.branch()
                    self.assertEqual(shown(branch), shown(desk))
                    now = shown(desk)
                    self.assertEqual((answer,) + tuple(branch.cycle(k, ask=row) for k, row in others), tried)
                    branch.back(branch.deeds)
                    branch.change(books[1])
                    self.assertEqual(shown(desk), now)
                elif kind < 0.85:
                    book = chance.pick(books)
                    standing = chance.pick((None, (chance.random.randrange(len(book)),)))
                    desk.change(book, None if standing is None else list(standing))
                    plain.deeds.append(("change", book, standing))
                    met["change"] += 1
                elif plain.deeds:
                    many = chance.random.randint(1, min(3, len(plain.deeds)))
                    desk.back(many) if many > 1 else desk.back()
                    del plain.deeds[len(plain.deeds) - many:]
                    met["back"] += 1
                words = self.check(desk, plain, game)
                met["bad"] += desk.bad_now
                if words:
                    met[words[-1]] += 1
            met["asked"] += asked
        self.assertGreater(min(met.values()), 15, met)

    def test_told_by_readings_and_answers(self):
        """[197], [198]: the lot is the known lot; without changes a fault is sure where the alarm beside the book is 1."""
        bells = 0
        for chance, game, _, asked, books in desks(442, 80, faults=1):
            desk, watched = Desk(game, books[0]), Watched(game.arena, books[0])
            standing, readings, answers = watched.start(), [], []
            if not len(game.arena.plant.inputs):
                continue
            for _ in range(8):
                ask = chance.reading(game.arena.plant.outputs)
                answer = desk.cycle(chance.random.randrange(30), ask=ask) if asked else desk.cycle(
                    chance.random.randrange(30))
                told, reading, _, _ = desk.history[-1]
                readings.append(reading)
                self.assertEqual(desk.lot, known(game.arena, readings, answers))
                bell, standing = watched.step(standing, reading + (told or ()))
                self.assertEqual(bell, answer + (1 if desk.is_sure else 0,))
                answers.append(answer)
                bells += bell[-1]
        self.assertGreater(bells, 20)

    def test_good_guards(self):
        """[199]: at a desk with a good guard no answer is ever bad; so behind a change to a good loop."""
        met = {"good": 0, "change": 0}
        for chance, game, plain, _, _ in desks(443, 150, inputs=1, outputs=1, faults=0.2):
            try:
                table = Table(game)
                if not table.guards:
                    continue
                book = machine_of(Drummed(table, drum_of(table)))
            except TooMany:
                continue
            self.assertEqual(judge(game, book)[0], "good")
            desk, freest = Desk(game, book), Desk(game, Freest(table))
            other = chance.machine(3, 1, 1)
            for _ in range(8):
                desk.cycle(chance.random.randrange(20))
                freest.cycle(chance.random.randrange(20), ask=chance.reading(1))
                self.assertFalse(desk.bad_now or freest.bad_now)
                _, _, answer, p = desk.history[-1]
                for t in range(len(other)):
                    if all(keeping_from(game, other, q, x, t) for x, q in game.arena.moves(p, answer)):
                        branch = desk.branch()
                        branch.change(other, (t,))
                        for _ in range(8):
                            branch.cycle(chance.random.randrange(20))
                            self.assertFalse(branch.bad_now)
                        met["change"] += 1
            met["good"] += 1
        self.assertGreater(min(met.values()), 15, met)

    def test_would_let(self):
        met = {True: 0, False: 0}
        for chance, game, plain, asked, books in desks(444, 80, most_standings=8):
            try:
                table = Table(game)
                same = Table(Game(Arena(game.arena.plant, game.arena.fewest, game.arena.most, waits=game.arena.waits,
                                        faults=game.arena.faults, many=game.arena.many),
                                  Wish(list(game.wish.never), [list(end) for end in game.wish.ends])))
            except TooMany:
                continue
            desk = Desk(game, books[0])
            arena = game.arena
            for _ in range(5):
                for reading in itertools.product((0, 1), repeat=len(arena.plant.inputs)):
                    if desk.cycles == 0:
                        lot = (0,) if reading == arena.first else ()
                    else:
                        lot = after(arena, desk.lot, desk.history[-1][2], reading)
                    for ask in arena.rows:
                        told = bool(lot) and lot in table and ask in table.let_at(lot)
                        self.told(told, desk.would_let, table, list(reading), list(ask))
                        self.told(told, desk.would_let, same, reading, ask)
                        met[told] += 1
                desk.cycle(chance.random.randrange(9))
                if chance.random.random() < 0.3:
                    desk.change(books[1])
        self.assertGreater(min(met.values()), 100, met)

    def test_would_let_of_another_game(self):
        game = Game(Arena(DOOR, 0, 1, faults=((0, "late"),)), Wish((((0, 1), ), ((0, 0), )), ((),)))
        desk = Desk(game, Machine.of_rows(1, 1, [[((0,), 0)] * 2]))
        wishes = [Wish((((0, 0),), ((0, 1),)), ((),)), Wish(game.wish.never, ()), Wish(game.wish.never[:1], ((),))]
        arenas = [Arena(DOOR, 0, 2, faults=((0, "late"),)), Arena(DOOR, 0, 1), Arena(DOOR, 0, 1, faults=((0, "late"),), many=1),
                  Arena(DOOR, 0, 1, waits=(((), (), 1),), faults=((0, "late"),))]
        for other in [Game(game.arena, wish) for wish in wishes] + [Game(arena, game.wish) for arena in arenas]:
            self.refused(OtherShape, {}, desk.would_let, Table(other), None, None)
        table = Table(game)
        for wrong in NO_ROWS + [(), (0, 0)]:
            self.refused(BadRow, {"place": -1}, desk.would_let, table, wrong, None)
            self.refused(BadRow, {"place": -1}, desk.would_let, table, (1,), wrong)
        for wrong in NO_BITS:
            self.refused(BadRow, {"place": 0}, desk.would_let, table, (wrong,), None)
            self.refused(BadRow, {"place": 0}, desk.would_let, table, (1,), (wrong,))

    def test_refused(self):
        plain, asked = Machine.of_rows(1, 1, [[((0,), 0)] * 2]), Machine.of_rows(2, 1, [[((0,), 0)] * 4])
        game = Game(Arena(DOOR, 0, 1), Wish((), ()))
        for wrong in (Machine.of_rows(3, 1, [[((0,), 0)] * 8]), Machine.of_rows(1, 0, [[((), 0)] * 2])):
            self.refused(OtherShape, {}, Desk, game, wrong)
            for book in (plain, asked):
                self.refused(OtherShape, {}, Desk(game, book).change, wrong)
        self.refused(OtherShape, {}, Desk(game, plain).change, asked)
        self.refused(OtherShape, {}, Desk(game, asked).change, plain)
        for book in (plain, asked):
            desk = Desk(game, book)
            for cycles in range(3):
                before = shown(desk)
                for wrong in [-1] + NO_NUMBERS:
                    self.refused(BadNumber, {"word": "pick"}, desk.cycle, wrong, ask=(2,))
                    self.refused(BadNumber, {"word": "pick"}, desk.tried, [(0, None), (wrong, (2,)), (-1, None)])
                    self.refused(BadNumber, {"word": "deeds"}, desk.back, wrong)
                self.refused(BadNumber, {"word": "deeds"}, desk.back, 0)
                self.refused(Gone, {"word": "back"}, desk.back, cycles + 1)
                self.refused(Gone, {"word": "back"}, desk.back, 61)
                for ask in [(), (2,), "0", 1, (0, 0)] + ([(0,)] if book is plain else []):
                    if book is plain:
                        self.refused(Gone, {"word": "ask"}, desk.cycle, 0, ask=ask)
                        self.refused(Gone, {"word": "ask"}, desk.tried, ((0, None), [1, ask]))
                    else:
                        place = 0 if ask == (2,) else -1
                        self.refused(BadRow, {"place": place}, desk.cycle, 0, ask=ask)
                        self.refused(BadRow, {"place": place}, desk.tried, ((0, None), [1, ask]))
                self.assertEqual(shown(desk), before)
                desk.cycle(7)

    def test_both_ways(self):
        """A book that fits both ways counts as plain."""
        desk = Desk(Game(TURNS, Wish((), ())), DEAF)
        self.refused(Gone, {"word": "ask"}, desk.cycle, 0, ask=())
        self.assertEqual(desk.cycle(), ())
        self.assertIsNone(desk.history[0][0])

    def test_example(self):
        desk = Desk(Game(TURNS, Wish((), ())), DEAF)
        self.assertEqual((desk.lot, desk.is_sound, desk.is_sure, desk.bad_now, desk.history, desk.cycles, desk.deeds),
                         ((0,), True, False, False, (), 0, 0))
        self.assertEqual([desk.cycle(), desk.cycle(0), desk.cycle(0)], [(), (), ()])
        self.assertEqual(desk.history[2], (None, (0,), (), 4))
        self.assertEqual((desk.lot, desk.is_sure, desk.may_be(4), desk.may_be(0)), ((1, 4), True, True, False))
        self.assertEqual(history_lines(desk), ["  0 0 -   1 sound", "  1 0 -   2 may be", "  2 0 -   2 sure"])

    def test_all_kinds_of_books(self):
        game = Game(Arena(DOOR, 0, 1), Wish((), ()))
        rungs = Rungs(("i",), ("x",), ("c",), ((("rise", "i"), (("put", "x"),)),))
        for book in (rungs, Bent(rungs, (0,)), Tasks(("i",), ("x",), ((rungs, 3, 1),)),
                     Bent(Beside(rungs, Machine.of_rows(0, 0, [[((), 0)]])), (0,))):
            desk = Desk(game, book)
            desk.cycle()
            desk.cycle(1)
            readings = [step[1] for step in desk]
            self.assertEqual(tuple(step[2] for step in desk), book.run(readings))
            self.assertEqual(desk.standing, book.run_from(book.start(), readings)[1])


class TestTrial(Case):
    def test_trials(self):
        for chance, game, _, asked, books in desks(445, 30):
            desk = Desk(game, books[0])
            for _ in range(chance.random.randint(0, 4)):
                desk.cycle(chance.random.randrange(9))
            if chance.random.random() < 0.5:
                desk.change(books[1])
            before = shown(desk)
            with Trial(desk) as it:
                self.assertIs(it, desk)
                it.cycle(3)
                it.change(books[2])
                it.back(it.deeds)
                it.cycle()
                with Trial(it) as inner:
                    now = shown(desk)
                    inner.cycle(5)
                    inner.back(2)
                self.assertEqual(shown(desk), now)
            self.assertEqual(shown(desk), before)
            for error in (KeyError, BadNumber):
                with self.assertRaises(error):
                    with Trial(desk) as it:
                        it.cycle(2)
                        if error is KeyError:
                            raise KeyError()
                        it.cycle(-1)
                self.assertEqual(shown(desk), before)
            trial = Trial(desk)
            desk.cycle()
            now = shown(desk)
            # What counts is what the desk was when the block was entered.
            with trial:
                desk.cycle()
            self.assertEqual(shown(desk), now)

            def left():
                with Trial(desk) as it:
                    it.cycle()
                    return it.cycles
            self.assertEqual(left(), desk.cycles + 1)
            self.assertEqual(shown(desk), now)

    def test_sixty_deeds(self):
        plant = Plant(((600, tuple((s, "on", (s + 1) % 600) for s in range(600))),), 1, (("level", 0, (5, 599)),),
                      drivers=(("on", 0, 1),))
        game = Game(Arena(plant, 0, 1), Wish((((0, 599),),), ()))
        desk = Desk(game, CycleChance(446).machine(500, 1, 1))
        for k in range(60):
            desk.cycle(k)
        self.assertEqual((desk.deeds, len(history_lines(desk)), len(desk.lot) <= 60), (60, 60, True))
        wide = desk.branch()
        for k in range(1100):
            wide.cycle(k)
        self.assertEqual(history_lines(wide)[1000][:5], "1000 ")
        wide.back(1100)
        self.assertEqual(shown(wide), shown(desk))
        desk.back(60)
        self.assertEqual((desk.cycles, desk.lot), (0, (0,)))


class TestLines(Case):
    def test_bits(self):
        for row, told in (((), "-"), ([], "-"), ((0,), "0"), ([1, 0, 1], "101"), ((0,) * 30, "0" * 30)):
            self.told(told, bits_line, row)
        for wrong in NO_ROWS:
            self.refused(BadRow, {"place": -1}, bits_line, wrong)
        for wrong in NO_BITS:
            self.refused(BadRow, {"place": 2}, bits_line, (0, 1, wrong, None))

    def line(self, row):
        return "".join(map(str, row)) or "-"

    def test_tables_and_plays(self):
        met = {"never": 0, "shut": 0, "bad": 0, "read": 0, "table": 0, "none": 0}
        for chance, game, _, _, _ in desks(447, 150, most_standings=8, ends=2):
            try:
                table = Table(game)
            except TooMany:
                continue
            wanted = []
            for lot in table.lots:
                wanted.append(" ".join(map(str, lot)) + " : " + " ".join(self.line(row) for row in table.let_at(lot)))
            self.assertEqual(table_lines(table), wanted)
            self.assertIsInstance(table_lines(table), list)
            met["table" if wanted else "none"] += 1
            if table.guards:
                continue
            wanted = []
            for lot, word, data in play_of(game):
                if word == "never":
                    text = f"never {data}"
                elif word == "shut":
                    text = f"shut {data[0]} end {data[1]}"
                else:
                    text = "rows " + ", ".join(f"bad {one}" if kind == "bad" else f"read {self.line(one)}"
                                               for kind, one in data)
                    met["bad"] += "bad" in text
                    met["read"] += "read" in text
                met[word] = met.get(word, 0) + 1
                wanted.append(" ".join(map(str, lot)) + " : " + text)
            self.assertEqual(play_lines(play_of(game)), wanted)
        self.assertGreater(min(met.values()), 8, met)
        self.assertEqual(play_lines(()), [])
        self.assertEqual(play_lines((((0, 3), "rows", (("bad", 3), ("reading", ()), ("reading", (1, 0)))),)),
                         ["0 3 : rows bad 3, read -, read 10"])

    def test_machines(self):
        chance = CycleChance(448)
        for inputs, outputs in itertools.product((0, 1, 2), (0, 1, 2)):
            machine = chance.machine(3, inputs, outputs)
            wanted = []
            for s, row in enumerate(machine.rows):
                for reading, (answer, behind) in zip(itertools.product((0, 1), repeat=inputs), row):
                    wanted.append(f"{s} {self.line(reading)} {self.line(answer)} {behind}")
            self.assertEqual(machine_lines(machine), wanted)
            self.assertIsInstance(machine_lines(machine), list)


if __name__ == "__main__":
    unittest.main()
