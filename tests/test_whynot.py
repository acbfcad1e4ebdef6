"""Why a row does not hold, and plays to lots."""

import unittest

from guardrungs.arenas import Arena, Game
from guardrungs.errors import BadLot, BadRow, HasGuard, TooMany
from guardrungs.known import after, lots_reached, readings_after
from guardrungs.plants import Plant
from guardrungs.plays import is_play, play_of
from guardrungs.tables import Table
from guardrungs.whynot import is_play_to, play_to, why_not
from guardrungs.wishes import Wish
from tests.checks import NO_BITS, NO_ROWS, Case, is_tuples
from tests.plaincycles import CycleChance
from tests.test_tables import DOOR, two_lines, wrong_lots


class Entries:
    """Whether a row of entries is a play to a lot, by the words of [129] and [202]; game is a PlainGame."""

    def __init__(self, game):
        self.game = game
        self.reached = [tuple(sorted(lot)) for lot in game.reached()]

    def lost(self, row, lot, ahead):
        if any(self.game.bad[q][row] for q in lot):
            return True
        return any(tuple(sorted(behind)) in ahead for behind in self.game.behind(lot, row).values())

    def right(self, entry, ahead):
        lot, word, data = entry
        if lot not in self.reached or lot in ahead:
            return False
        if word == "never":
            return data in lot and self.game.never[data]
        if word == "rows":
            if len(data) != len(self.game.arena.rows):
                return False
            for row, (kind, one) in enumerate(data):
                if kind == "bad" and not (one in lot and self.game.bad[one][row]):
                    return False
                if kind == "reading" and tuple(sorted(self.game.behind(lot, row).get(one, ()))) not in ahead:
                    return False
            return True
        p, j = data
        met, left = {(lot, p)}, [(lot, p)]
        for now, q in left:
            if self.game.ends[j][q]:
                return False
            for row in range(len(self.game.arena.rows)):
                if not self.lost(row, now, ahead):
                    behind = self.game.behind(now, row)
                    for reading, r in self.game.arena.table[q][row]:
                        pair = (tuple(sorted(behind[reading])), r)
                        if self.game.arena.calm(q, r) and pair not in met:
                            met.add(pair)
                            left.append(pair)
        return p in lot

    def is_play(self, play, lot):
        ahead = []
        for entry in play:
            if not self.right(entry, ahead):
                return False
            ahead.append(entry[0])
        return bool(play) and play[-1][0] == lot


def games(number, many, **more):
    chance = CycleChance(number)
    for at in range(many):
        told = dict(inputs=at % 3, outputs=at % 3, most_standings=7, driven=0.8)
        told.update(more)
        game, plain = chance.lively_game(**told)
        if len(lots_reached(game.arena)) < 40:
            yield chance, game, plain


class TestPlays(Case):
    def test_by_chance(self):
        met = {"play": 0, "guard": 0, "midst": 0, "shut": 0, "rows": 0}
        for chance, game, plain in games(461, 150):
            table, entries = Table(game), Entries(plain)
            plays = {}
            for lot in lots_reached(game.arena):
                if lot in table:
                    self.refused(HasGuard, {}, play_to, game, lot)
                    for other in plays.values():
                        self.told(False, is_play_to, game, other, lot)
                    met["guard"] += 1
                    continue
                play = self.told(play_to(game, lot), play_to, game, list(lot))
                self.assertTrue(is_tuples(play))
                self.assertTrue(entries.is_play(play, lot))
                self.told(True, is_play_to, game, play, lot)
                self.told(True, is_play_to, game, play, list(lot))
                self.assertIs(is_play(game, play), lot == (0,))
                rounds = [table.round_of(entry[0]) for entry in play]
                self.assertEqual(rounds, sorted(rounds))
                for at, (told, word, data) in enumerate(play):
                    self.assertIs(word == "never", rounds[at] == 0)
                    met[word] = met.get(word, 0) + 1
                    for kind, one in data if word == "rows" else ():
                        if kind == "reading":
                            row = game.arena.rows[data.index((kind, one))]
                            self.assertLess(table.round_of(after(game.arena, told, row, one)), rounds[at])
                plays[lot] = play
                met["play"] += 1
                met["midst"] += (0,) in [entry[0] for entry in play[:-1]]
            for lot, play in list(plays.items())[:6]:
                self.spoilt(chance, game, entries, play, lot)
                for other in list(plays)[:6]:
                    self.told(other == lot, is_play_to, game, play, other)
            if (0,) in plays:
                self.assertEqual(plays[(0,)], play_of(game))
        self.assertGreater(min(met.values()), 8, met)

    def spoilt(self, chance, game, entries, play, lot):
        for wrong in (None, 3, (), "ab", play + (None,), play + play[:1], ((),), (play[0][:2],), play[:-1] + (list(play[-1]),)):
            self.told(False, is_play_to, game, wrong, lot)
        for at in range(len(play)):
            other = play[:at] + play[at + 1:]
            self.told(entries.is_play(other, lot), is_play_to, game, other, lot)
            entry = play[at]
            for word, data in (("never", entry[0][0]), ("rows", (("bad", entry[0][0]),) * len(game.arena.rows))):
                changed = play[:at] + ((entry[0], word, data),) + play[at + 1:]
                self.told(entries.is_play(changed, lot), is_play_to, game, changed, lot)

    def test_limit_and_wrong(self):
        game = Game(Arena(DOOR, 1, 1), Wish((((0, 1),),), ()))
        many = Game(Arena(two_lines(), 1, 1), Wish((), ()))
        for call, args in ((play_to, ()), (is_play_to, (None,))):
            def asked(one, lot):
                return call(one, *args, lot)
            for wrong, place in wrong_lots(game.arena):
                self.refused(BadLot, {"place": place}, asked, game, wrong)
            for wrong, place in wrong_lots(many.arena):
                self.refused(BadLot, {"place": place}, asked, many, wrong)
            self.refused(BadLot, {"place": -1}, asked, game, (0, 1))
            # More lots than may be are told ahead of a lot that is not reached.
            self.refused(TooMany, {"limit": 600}, asked, many, (0,))
            self.refused(TooMany, {"limit": 600}, asked, many, tuple(range(30)))
        self.refused(HasGuard, {}, play_to, game, (0,))
        play = play_to(game, (1,))
        self.assertEqual(play, (((1,), "never", 1),))
        self.told(False, is_play_to, game, play, (0,))


class TestWhyNot(Case):
    def test_by_chance(self):
        met = {"none": 0, "bad": 0, "reading": 0}
        for chance, game, plain in games(462, 250):
            table, entries = Table(game), Entries(plain)
            arena = game.arena
            for lot in lots_reached(arena):
                if lot not in table:
                    self.refused(BadLot, {"place": -1}, why_not, table, lot, None)
                    continue
                for number, row in enumerate(arena.rows):
                    bad = [p for p in lot if plain.bad[p][number]]
                    told = self.told(why_not(table, lot, row), why_not, table, list(lot), list(row))
                    self.assertIs(told is None, row in table.let_at(lot))
                    if told is None:
                        met["none"] += 1
                    elif bad:
                        self.assertEqual(told, ("bad", bad[0]))
                        met["bad"] += 1
                    else:
                        word, reading, play = told
                        out = [x for x in readings_after(arena, lot, row) if after(arena, lot, row, x) not in table]
                        self.assertEqual((word, reading), ("reading", out[0]))
                        behind = after(arena, lot, row, reading)
                        self.assertTrue(entries.is_play(play, behind))
                        self.assertTrue(is_play_to(game, play, behind))
                        met["reading"] += 1
        self.assertGreater(min(met.values()), 8, met)

    def test_example_and_wrong(self):
        plant = Plant(((3, ((0, "a", 1), (1, "c", 2))),), 1, (("level", 0, (1,)),), drivers=(("a", 0, 1),))
        game = Game(Arena(plant, 0, 1), Wish((((0, 2),),), ()))
        table = Table(game)
        why = why_not(table, (0,), (1,))
        self.assertEqual(why[:2], ("reading", (1,)))
        self.told(True, is_play_to, game, why[2], (1,))
        for wrong, place in wrong_lots(game.arena):
            self.refused(BadLot, {"place": place}, why_not, table, wrong, None)
        for wrong in ((1,), (0, 1)):
            self.refused(BadLot, {"place": -1}, why_not, table, wrong, None)
        for wrong in NO_ROWS + [(), (0, 0)]:
            self.refused(BadRow, {"place": -1}, why_not, table, (0,), wrong)
        for wrong in NO_BITS:
            self.refused(BadRow, {"place": 0}, why_not, table, (0,), (wrong,))


if __name__ == "__main__":
    unittest.main()
