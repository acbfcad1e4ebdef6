"""The examples of the document, as they stand there."""

import doctest
import unittest

EXAMPLES = r"""
>>> from guardrungs.formtexts import formula_from, formula_text
>>> formula_text(formula_from(" ( (a)and not(b or rise c) ) "))
'(a and not (b or rise c))'

>>> from guardrungs.decisions import decided, decision
>>> from guardrungs.formtexts import formula_from, formula_text
>>> tree = decision(formula_from("((a and b) or (not a and c))"), ("a", "b", "c"))
>>> (tree, formula_text(decided(tree)))
(('a', ('c', 0, 1), ('b', 0, 1)), '((not a and c) or (a and b))')

>>> from guardrungs.formulas import turned
>>> turned(("or", (("bit", 0), ("not", ("name", "a")))))
('and', (('bit', 1), ('not', ('not', ('name', 'a')))))

>>> from guardrungs.rungtexts import rungs_from
>>> book = rungs_from("rungs\ninputs i\noutputs x\ncells c\n(not c and i) : put x\ni : put c")
>>> book.run([(1,), (1,), (0,), (1,)])
((1,), (0,), (0,), (1,))

>>> from guardrungs.rungs import Rungs
>>> from guardrungs.rungtexts import rungs_text
>>> rungs = ((("name", "i"), (("feed", "t"),)), (("name", "t"), (("count", "u", ""),)), (("name", "u"), (("set", "x"),)))
>>> book = Rungs(("i",), ("x",), (), rungs, timers=(("t", "on", 1),), counters=(("u", 2),))
>>> (book.run([(1,), (1,), (0,), (1,), (1,)]), rungs_text(book))
(((0,), (0,), (0,), (0,), (1,)), 'rungs\ninputs i\noutputs x\ncells\ntimer t on 1\ncounter u 2\ni : feed t\nt : count u\nu : set x')

>>> from guardrungs.frames import count_orders, swaps, touching
>>> frame = ((("i",), "a"), (("a",), "b"), (("i",), "c"))
>>> (touching(frame), swaps(frame, (0, 1, 2), (2, 0, 1)), count_orders(frame))
(((0, 1),), (1, 0), 2)

>>> from guardrungs.sheettexts import sheet_from
>>> sheet = sheet_from("sheet\ninputs i\nt = cell u\nu = odd t i\noutput x u")
>>> (sheet.run([(1,), (0,), (1,)]), sheet.start(), sheet.order, sheet.kept)
(((1,), (1,), (0,)), (0,), (1,), 1)

>>> from guardrungs.sheets import Sheet
>>> from guardrungs.errors import BadBook
>>> try:
...     Sheet(("i",), (("w", "and", ("i", "y"), 0), ("x", "not", ("y",), 0), ("y", "or", ("x", "i"), 0)), (("z", "w"),))
... except BadBook as raised:
...     (raised.word, raised.place)
('ring', 1)

>>> from guardrungs.sheettexts import sheet_from
>>> from guardrungs.unwired import rungs_of_sheet
>>> from guardrungs.versions import sheet_of_rungs
>>> book = rungs_of_sheet(sheet_from("sheet\ninputs i\na = cell i\nb = cell a\noutput x b"))
>>> (book.run([(1,), (0,), (0,), (1,)]), sheet_of_rungs(book).run([(1,), (0,), (0,), (1,)]))
(((0,), (0,), (1,), (0,)), ((0,), (0,), (1,), (0,)))

>>> from guardrungs.chaintexts import chain_from
>>> chain = chain_from("chain\ninputs i\noutputs x\ncells\nsteps a b\nmarked a\nfrom a -> b : i\nfrom b -> a : not i\nshow b x 2 -")
>>> (chain.run([(1,), (1,), (1,), (1,), (0,)]), chain.start(), chain.run_from(chain.start(), [(1,), (1,)])[1])
(((0,), (0,), (1,), (1,), (0,)), (1, 0, -1, 0, 0), (0, 1, 0, 1, 0))

>>> from guardrungs.chaintexts import chain_from
>>> from guardrungs.freechain import doubled_by, marks_reached
>>> chain = chain_from("chain\ninputs\noutputs\ncells\nsteps a b c\nmarked a\nfrom a -> b c : 1\nfrom b -> c : 1")
>>> (marks_reached(chain), doubled_by(chain))
((('a',), ('b', 'c'), ('c',)), ((0,), (1,)))

>>> from guardrungs.chaintexts import chain_from
>>> from guardrungs.lotsofone import covering, is_lot_of_one
>>> chain = chain_from("chain\ninputs\noutputs\ncells\nsteps a b c d\nmarked a c\nfrom a c -> b d : 1\nfrom b -> a : 1\nfrom d -> c : 1")
>>> (len(covering(chain)), is_lot_of_one(chain, ("a", "b")), is_lot_of_one(chain, ("a", "d")))
(2, True, False)

>>> from guardrungs.machines import Machine
>>> rise = Machine.of_rows(1, 1, ((((0,), 0), ((1,), 1)), (((0,), 0), ((0,), 1))))
>>> (rise.run([(1,), (1,), (0,), (1,)]), rise(1, (0,)), len(rise))
(((1,), (0,), (0,), (1,)), ((0,), 0), 2)

>>> from guardrungs.machines import Machine
>>> from guardrungs.least import classes, least, rounds, told_apart
>>> m = Machine.of_rows(1, 1, [[((0,), 0), ((0,), 1)], [((0,), 0), ((0,), 2)], [((0,), 0), ((1,), 2)], [((0,), 0), ((0,), 2)]])
>>> (classes(m), rounds(m), told_apart(m, 0, 1), told_apart(m, 1, 3), len(least(m)))
((0, 1, 2, 1), 2, ((1,), (1,)), None, 3)

>>> from guardrungs.machines import Machine
>>> rise = Machine.of_rows(1, 1, ((((0,), 0), ((1,), 1)), (((0,), 0), ((0,), 1))))
>>> flip = Machine.of_rows(1, 1, ((((0,), 0), ((1,), 1)), (((1,), 1), ((0,), 0))))
>>> both = rise * flip
>>> (both.inputs, both.outputs, both.run([(1,), (1,), (0,), (1,)]), len(both))
(('a.i0',), ('b.o0',), ((1,), (1,), (1,), (0,)), 4)

>>> from guardrungs.machines import Machine, machine_of
>>> from guardrungs.least import least
>>> from guardrungs.formsof import chain_of, rungs_of, sheet_of
>>> rise = Machine.of_rows(1, 1, ((((0,), 0), ((1,), 1)), (((0,), 0), ((0,), 1))))
>>> (sheet_of(rise).kept, least(machine_of(chain_of(rise))) == rise, rungs_of(rise).run([(1,), (1,)]))
(1, True, ((1,), (0,)))

>>> from guardrungs.windows import timer_bits
>>> (timer_bits("on", 2, (1, 1, 1, 0, 1)), timer_bits("off", 2, (1, 0, 0, 0)), timer_bits("pulse", 2, (1, 0, 1, 1, 0, 1)))
((0, 0, 1, 0, 0), (1, 1, 1, 0), (1, 1, 1, 1, 0, 1))

>>> from guardrungs.timerrows import normal, one_rule, rules_at
>>> row = (("on", 2), ("on", 0), ("off", 1), ("on", 4))
>>> (rules_at(row), one_rule(row, 0), normal(row))
(((0, 'added'), (1, 'nothing')), ((('on', 2), ('off', 1), ('on', 4)), 0, 'added'), ((('on', 5),), 1))

>>> from guardrungs.rungs import Rungs
>>> from guardrungs.machines import machine_of
>>> from guardrungs.scaling import held_answers, settles
>>> book = Rungs(("i",), ("x",), (), ((("rise", "i"), (("put", "x"),)),))
>>> (held_answers(book, 2), settles(machine_of(book)))
(((1,),), False)

>>> from guardrungs.alike import pairs_met, unlike_row
>>> from guardrungs.rungs import Rungs
>>> wire = Rungs(("i",), ("x",), (), ((("name", "i"), (("put", "x"),)),))
>>> edge = Rungs(("i",), ("x",), (), ((("rise", "i"), (("put", "x"),)),))
>>> (unlike_row(wire, edge), pairs_met(wire, edge), pairs_met(wire, wire))
(((1,), (1,)), None, 2)

>>> from guardrungs.hangs import hanging, two_rows
>>> from guardrungs.rungs import Rungs
>>> book = Rungs(("a", "b"), ("x", "y"), (), ((("name", "x"), (("put", "y"),)), (("name", "a"), (("put", "x"),))))
>>> (hanging(book), len(two_rows(book, 1, 0)[0]), two_rows(book, 0, 1))
(((0,), (0,)), 2, None)

>>> from guardrungs.needless import needless_parts, trimmed
>>> from guardrungs.rungs import Rungs
>>> both = ("and", (("name", "o"), ("name", "c")))
>>> book = Rungs(("x",), ("o",), ("c",), ((("name", "x"), (("put", "o"),)), (("bit", 1), (("put", "c"),)), (both, (("put", "o"),))))
>>> (needless_parts(book), trimmed(book).rungs)
((2,), ((('name', 'x'), (('put', 'o'),)),))

>>> from guardrungs.forgets import forgetting, healing, recent
>>> from guardrungs.rungs import Rungs
>>> edge = Rungs(("i",), ("x",), (), ((("rise", "i"), (("put", "x"),)),))
>>> clock = Rungs((), ("x",), (), ((("not", ("name", "x")), (("put", "x"),)),))
>>> rows = [[0], [1], [1]]
>>> (forgetting(edge), healing(edge), forgetting(clock), healing(clock), recent(edge, rows, 0), recent(edge, rows, 1))
(1, 1, None, 0, None, (0,))

>>> from guardrungs.moves import falling_moves
>>> from guardrungs.plants import Plant
>>> plant = Plant(((2, ((0, "go", 1), (1, "back", 0))),), 1, (("level", 0, (1,)), ("mark", ("back",))), drivers=(("go", 0, 1),))
>>> (falling_moves(plant, (0,), (1,), 0, 2), falling_moves(plant, (0,), (0,), 1, 1))
((((0, 0), (0,)), ((0, 1), (0,)), ((1, 0), (1,))), (((0, 0), (0,)),))

>>> from guardrungs.arenas import Arena
>>> from guardrungs.plants import Plant
>>> plant = Plant(((2, ((0, "up", 1), (1, "down", 0))),), 0, (("level", 0, (1,)),))
>>> arena = Arena(plant, 1, 1, faults=((0, "stuck0"),), many=1)
>>> (arena.moves(0, ()), arena.standings)
((((0,), 1), ((1,), 2)), (((0,), (), ('',), ()), ((1,), (), ('stuck0',), ()), ((1,), (), ('',), ()), ((0,), (), ('stuck0',), ())))

>>> from guardrungs.chaintexts import chain_text
>>> from guardrungs.plantchains import chain_of_plant
>>> from guardrungs.planttexts import plant_from
>>> chain_text(chain_of_plant(plant_from("plant\nmachine 2\n0 go 1\n1 back 0\noutputs 1\ndriver go 0 1")))
'chain\ninputs o0 c0 c1\noutputs\ncells\nsteps m0.s0 m0.s1\nmarked m0.s0\nfrom m0.s0 -> m0.s1 : (c0 and o0)\nfrom m0.s1 -> m0.s0 : c1'

>>> from guardrungs.arenas import Arena, Game
>>> from guardrungs.freest import Freest, refused_at
>>> from guardrungs.freestplain import Widest, pair_open
>>> from guardrungs.plants import Plant
>>> from guardrungs.tables import Table
>>> from guardrungs.wishes import Wish
>>> arrows = ((0, "aa", 1), (0, "bb", 2), (1, "bb", 3), (2, "aa", 3))
>>> levels = (("level", 0, (1,)), ("level", 0, (2,)), ("level", 0, (3,)))
>>> plant = Plant(((4, arrows),), 2, levels, drivers=(("aa", 0, 1), ("bb", 1, 1)))
>>> one = Table(Game(Arena(plant, 0, 1), Wish((((0, 3),),), ())))
>>> two = Table(Game(Arena(plant, 0, 2), Wish((((0, 3),),), ())))
>>> told = (two[(0,)], pair_open(two), Widest(one).run([(0, 0, 0), (1, 0, 0), (1, 0, 0)]))
>>> asked = Freest(two).run([(0, 0, 0, 1, 1), (0, 0, 0, 0, 1), (0, 1, 0, 1, 1)])
>>> (told, asked, refused_at(two, [(0, 0, 0), (1, 0, 0)], [(1, 0), (0, 1)]))
((((0, 0), (0, 1), (1, 0)), ((0,), (0,)), ((1, 1), (0, 0), (0, 0))), ((0, 0), (0, 1), (0, 0)), 1)

>>> from guardrungs.arenas import Arena, Game
>>> from guardrungs.drums import Drummed, is_drum
>>> from guardrungs.plants import Plant
>>> from guardrungs.tables import Table
>>> from guardrungs.wishes import Wish
>>> plant = Plant(((2, ((0, "a", 1), (1, "b", 0))),), 1, (("level", 0, (1,)),), drivers=(("a", 0, 1),))
>>> table = Table(Game(Arena(plant, 0, 1), Wish((), ((((0, 1),),),))))
>>> book = Drummed(table, [(0,), (1,)], begin=1)
>>> (table.lots, is_drum(table, [(1,)]), is_drum(table, [(0,)]), book.run([(0,), (1,), (0,), (0,)]))
(((0,), (1,)), True, False, ((1,), (0,), (1,), (0,)))

>>> from guardrungs.arenas import Arena, Game
>>> from guardrungs.loops import judge
>>> from guardrungs.machines import Machine
>>> from guardrungs.plants import Plant
>>> from guardrungs.plays import is_play, lasts, reason_wrong
>>> from guardrungs.wishes import Wish
>>> plant = Plant(((3, ((0, "up", 1), (0, "off", 2))),), 1, (), drivers=(("up", 0, 1), ("off", 0, 0)))
>>> game = Game(Arena(plant, 0, 1), Wish((((0, 1),), ((0, 2),)), ()))
>>> play = (((0,), "rows", (("bad", 0), ("bad", 0))),)
>>> book = Machine((), ("y",), ((((1,), 0),),))
>>> (is_play(game, play), reason_wrong(game, ()), lasts(game, 0), lasts(game, 1), judge(game, book))
(True, 0, True, False, ('bad', (), (1,)))

>>> from guardrungs.carried import carried_upto
>>> from guardrungs.charts import judge_chart
>>> from guardrungs.plants import Plant
>>> from guardrungs.wishes import Wish
>>> arrows = ((0, "aa", 1), (0, "bb", 2), (1, "bb", 3), (2, "aa", 3), (3, "cc", 0))
>>> plant = Plant(((4, arrows),), 2, (("level", 0, (1,)), ("level", 0, (2,))), drivers=(("aa", 0, 1), ("bb", 1, 1)))
>>> chart = (((1, 1), (1, 0), (0, 1), (0, 0)), ((1, 2, 0), (1, 3, 1), (3, 2, 2), (3, 3, 0)))
>>> (judge_chart(plant, Wish((((0, 3),),), ()), chart), carried_upto(plant, chart))
(('good', (), None), 1)

>>> from guardrungs.manychanges import rows_at
>>> from guardrungs.onebyone import freest_chart
>>> from guardrungs.plants import Plant
>>> from guardrungs.wishes import Wish
>>> arrows = ((0, "aa", 1), (0, "bb", 2), (1, "bb", 3), (2, "aa", 3))
>>> plant = Plant(((4, arrows),), 2, (), drivers=(("aa", 0, 1), ("bb", 1, 1)))
>>> wish = Wish((((0, 3),),), ())
>>> (freest_chart(plant, wish), rows_at(plant, wish, (0,), 2))
((((1, 1), (1, 0), (0, 1)), ((1, 2), (1, 1), (2, 2))), ((0, 0), (0, 1), (1, 0)))

>>> from guardrungs.arenas import Arena
>>> from guardrungs.noticing import noticed_free
>>> from guardrungs.plants import Plant
>>> plant = Plant(((3, ((0, "a", 1), (0, "d", 2), (1, "b", 0), (2, "e", 1))),), 0, (("level", 0, (1,)),))
>>> rests = Arena(plant, 0, 1, faults=((0, "stuck0"),), many=1)
>>> turns = Arena(plant, 1, 1, faults=((0, "stuck0"),), many=1)
>>> (noticed_free(rests), noticed_free(turns))
(None, 1)

>>> from guardrungs.alarms import Watched
>>> from guardrungs.arenas import Arena
>>> from guardrungs.machines import Machine
>>> from guardrungs.plants import Plant
>>> plant = Plant(((3, ((0, "a", 1), (0, "d", 2), (1, "b", 0), (2, "e", 1))),), 0, (("level", 0, (1,)),))
>>> turns = Arena(plant, 1, 1, faults=((0, "stuck0"),), many=1)
>>> watched = Watched(turns, Machine(("i",), (), ((((), 0), ((), 0)),)))
>>> (watched.outputs, watched.run([(0,), (0,), (0,), (1,)]))
(('z',), ((0,), (0,), (1,), (1,)))

>>> from guardrungs.arenas import Arena, Game
>>> from guardrungs.eyes import enough, least_eyes
>>> from guardrungs.plants import Plant
>>> from guardrungs.wishes import Wish
>>> inputs = (("level", 0, (1,)), ("mark", ("b",)), ("level", 0, (0,)))
>>> plant = Plant(((3, ((0, "a", 1), (1, "a", 2), (1, "b", 0))),), 1, inputs, drivers=(("a", 0, 1),))
>>> game = Game(Arena(plant, 0, 1), Wish((((0, 2),),), ((((0, 1),),),)))
>>> (least_eyes(game), enough(game, (1,)))
(((0,), (2,)), False)

>>> from guardrungs.rungs import Rungs
>>> from guardrungs.tasks import Tasks
>>> first = Rungs(("i",), ("x",), (), ((("name", "i"), (("put", "x"),)),))
>>> second = Rungs(("x",), ("y",), (), ((("name", "x"), (("put", "y"),)),))
>>> tasks = Tasks(("i",), ("x", "y"), ((first, 2, 0), (second, 3, 1)))
>>> rows = [[1], [0], [0], [0], [1]]
>>> (tasks.common, tasks.due(4), tasks.run(rows), tasks.in_rank((1, 0)).run(rows)[4])
(6, (0, 1), ((1, 0), (1, 1), (0, 1), (0, 1), (1, 1)), (1, 0))

>>> from guardrungs.ranks import due_together, first_together, same_for_all_ranks
>>> frame = ((("a",), "x"), (("x",), "y"))
>>> (first_together(2, 0, 3, 1), due_together(2, 0, 4, 1), same_for_all_ranks(frame, ((2, 0), (3, 1)), (0, 1), (1, 0)), same_for_all_ranks(frame, ((2, 0), (4, 1)), (0, 1), (1, 0)))
(4, False, False, True)

>>> from guardrungs.cutting import first_miss, job_ends, who_runs
>>> from guardrungs.worst import load, response, rows_of_response
>>> jobs = ((1, 3, 0), (2, 5, 0))
>>> (who_runs(jobs, 8), first_miss(jobs), job_ends(jobs, 1, 2), rows_of_response(jobs, 1), response(jobs, 1), load(jobs))
((0, 1, 1, 0, -1, 1, 0, 1), None, (3, 3), (2, 3), 3, (11, 15))

>>> from guardrungs.instants import always_one, one_moment, stretch, torn
>>> jobs = ((1, 2, 0), (2, 4, 0))
>>> programs = (((("i",), ("a", "b")),), ((("a",), ("c",)), (("b", "c"), ())))
>>> (stretch(jobs, programs, 1, 0), one_moment(jobs, programs, 1, 0), always_one(jobs, programs, 1), torn(jobs, programs, 1))
((('a', 1, 1, 2), ('b', 3, 3, 4)), None, False, (0, ('a', 1, 1, 2), ('b', 3, 3, 4)))

>>> from guardrungs.plants import Plant
>>> from guardrungs.slow import moves_in_turn
>>> plant = Plant(((3, ((0, "go", 1), (1, "go", 2))),), 1, (("level", 0, (2,)), ("mark", ("go",))))
>>> moves_in_turn(plant, (0,), (0,), 1, 1, 2)
(((1, 1), (2,)),)

>>> from guardrungs.keptbits import least_kept, map_by, torn_kept
>>> from guardrungs.machines import Machine
>>> from guardrungs.rightness import like_rights
>>> from guardrungs.safemoments import Changed, unsafe_within
>>> old = Machine.of_rows(1, 1, ((((0,), 0), ((0,), 1)), (((1,), 2), ((1,), 2)), (((1,), 1), ((1,), 1))))
>>> new = Machine.of_rows(1, 1, ((((1,), 0), ((1,), 0)), (((0,), 1), ((0,), 0))))
>>> rights = like_rights(old, new)
>>> codes = ((0, 0), (1, 0), (1, 1))
>>> maps = (map_by(codes, rights, (0,)), least_kept(codes, rights), torn_kept(codes, rights, (1,)))
>>> book = Changed(old, new, (-1, 0, 0), since=2)
>>> run = book.run_from(book.start(), [(1,), (0,), (1,)])
>>> (rights, maps, run, unsafe_within(old, ((1,), (), (0,))), unsafe_within(old, ((), (0,), (0,))))
(((1,), (0,), (0,)), ((((0,), 1), ((1,), 0)), ((0,),), (0, 1)), (((0,), (1,), (1,)), (1, 0, 0)), 1, None)

>>> from guardrungs.arenas import Arena, Game
>>> from guardrungs.handing import always_safe, both_always, keeping_pairs, sets_meet
>>> from guardrungs.plants import Plant
>>> from guardrungs.tables import Table
>>> from guardrungs.wishes import Wish
>>> plant = Plant(((3, ((0, "a", 1), (0, "b", 2))),), 1, (), drivers=(("a", 0, 1), ("b", 0, 0)))
>>> arena = Arena(plant, 1, 1)
>>> one = Game(arena, Wish((((0, 2),),), ()))
>>> two = Game(arena, Wish((((0, 1),),), ()))
>>> pair = (Table(one), Table(two))
>>> (sets_meet(pair[0], pair[1]), both_always(one, two).guards, always_safe(pair[0], pair[1]), keeping_pairs(pair[0], pair[1])[0])
(((0,),), False, False, (((0,), (1,)), False))

>>> from guardrungs.arenas import Arena, Game
>>> from guardrungs.desks import Desk
>>> from guardrungs.listings import history_lines
>>> from guardrungs.machines import Machine
>>> from guardrungs.plants import Plant
>>> from guardrungs.wishes import Wish
>>> plant = Plant(((3, ((0, "a", 1), (0, "d", 2), (1, "b", 0), (2, "e", 1))),), 0, (("level", 0, (1,)),))
>>> turns = Arena(plant, 1, 1, faults=((0, "stuck0"),), many=1)
>>> desk = Desk(Game(turns, Wish((), ())), Machine(("i",), (), ((((), 0), ((), 0)),)))
>>> told = [desk.cycle(), desk.cycle(0), desk.cycle(0)]
>>> (desk.history[2], desk.lot, desk.is_sure, history_lines(desk))
((None, (0,), (), 4), (1, 4), True, ['  0 0 -   1 sound', '  1 0 -   2 may be', '  2 0 -   2 sure'])

>>> from guardrungs.papers import lean_paper, what_if
>>> from guardrungs.rungs import Rungs
>>> rungs = ((("name", "i"), (("set", "x"),)), (("name", "j"), (("reset", "x"),)))
>>> book = Rungs(("i", "j"), ("x",), (), rungs)
>>> readings = ((1, 0), (0, 0), (0, 0))
>>> (lean_paper(book, readings, 0), what_if(book, readings, 1, 1), what_if(book, readings, 0, 2))
(((0, 0), (1, 0), (1, 1), (1, 2)), (1, 0), None)

>>> from guardrungs.arenas import Arena, Game
>>> from guardrungs.listings import table_lines
>>> from guardrungs.plants import Plant
>>> from guardrungs.tables import Table
>>> from guardrungs.whynot import is_play_to, why_not
>>> from guardrungs.wishes import Wish
>>> plant = Plant(((3, ((0, "a", 1), (1, "c", 2))),), 1, (("level", 0, (1,)),), drivers=(("a", 0, 1),))
>>> game = Game(Arena(plant, 0, 1), Wish((((0, 2),),), ()))
>>> table = Table(game)
>>> why = why_not(table, (0,), (1,))
>>> (table_lines(table), why[:2], is_play_to(game, why[2], (1,)))
(['0 : 0'], ('reading', (1,)), True)
"""


class TestExamples(unittest.TestCase):
    def test_examples(self):
        test = doctest.DocTestParser().get_doctest(EXAMPLES, {}, "examples", None, 0)
        self.assertGreater(len(test.examples), 120)
        told = []
        results = doctest.DocTestRunner(verbose=False).run(test, out=told.append)
        self.assertEqual(results.failed, 0, "".join(told))


if __name__ == "__main__":
    unittest.main()
