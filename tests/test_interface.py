"""The interface: names, the files that define them, arguments, and methods in the very class."""

import ast
import importlib
import inspect
import os
import unittest

import guardrungs

FUNCTIONS = {
    "bits": "is_bit(value) check_row(row,many) rows_of(many) number_of(row) row_at(number,many)",
    "formulas": "is_name(value) check_formula(formula) is_plain(formula) names_of(formula) edges_of(formula) "
                "bit_of(formula,bits) turned(formula) all_of(*formulas) any_of(*formulas)",
    "formtexts": "formula_text(formula) formula_from(text)",
    "decisions": "decision(formula,order) decision_of_bits(bits,order) decided(decision) same_rows(formula,other) "
                 "first_unlike(formula,other,order) hangs_on(formula,name)",
    "ticks": "check_timer(kind,number) timer_start(kind,number) timer_step(kind,number,count,bit) "
             "counter_step(number,count,last,bit,clear)",
    "frames": "check_frame(frame) touching(frame) same_for_all(frame,order,other) telling(frame,order,other) "
              "filled(frame,filling,order) swaps(frame,order,other) count_orders(frame) directions(frame,order)",
    "rungtexts": "rungs_text(book) rungs_from(text)",
    "sheets": "order_of(inputs,blocks) ring_of(inputs,blocks)",
    "versions": "versions_of(book) sheet_of_rungs(book)",
    "unwired": "cells_of(sheet) rungs_of_sheet(sheet)",
    "sheettexts": "sheet_text(sheet) sheet_from(text)",
    "chains": "free(chain)",
    "freechain": "can_fire(chain,marks,lot) marks_reached(chain) doubled_by(chain) stuck_by(chain)",
    "lotsofone": "is_lot_of_one(chain,lot) even_at(chain,lot,place) fires_ever(chain,place) covering(chain) "
                 "is_covering(chain,lots)",
    "exclusive": "overlap(chain) exclusive(chain)",
    "chainrungs": "chain_cells(chain) rungs_of_chain(chain)",
    "chaintexts": "chain_text(chain) chain_from(text)",
    "machines": "machine_of(book)",
    "least": "least(machine) classes(machine) rounds(machine) told_apart(machine,s,t) alike_machines(m,n)",
    "formsof": "rungs_of(machine) sheet_of(machine) chain_of(machine)",
    "windows": "timer_bits(kind,number,bits) counter_bits(number,bits,clears) timer_machine(kind,number) "
               "counter_machine(number) delayed(bits,d)",
    "timerrows": "check_timer_row(row) row_bits(row,bits,*,delay=0) normal(row,*,delay=0) one_rule(row,delay) "
                 "rules_at(row) use(row,delay,place) alike_rows(row,delay,other,other_delay) "
                 "told_by(row,delay,other,other_delay) trims(row) signed_path(row)",
    "scaling": "scaled(book,k) held(readings,k) held_answers(book,k) settles(machine)",
    "timercells": "timer_sheet(kind,number) untimed(sheet)",
    "alike": "alike(book,other) unlike_row(book,other) pairs_met(book,other)",
    "hangs": "hangs(book,output,place) two_rows(book,output,place) hanging(book)",
    "needless": "left_out(book,part) needless_parts(book) trimmed(book,order=())",
    "forgets": "forgetting(book) remembered(book,k) healing(book) unhealed(book,k) recent(book,readings,k)",
    "moves": "layers(plant,standing,row,many) falling_moves(plant,standing,row,least,most) "
             "rows_of_changes(plant,standing,row,many) depth(plant,standing,row) depth_of(plant) "
             "meets(plant,standing,row,least,most,never)",
    "wishes": "fits(patterns,standing) joined_wish(wish,other) moved(wish,many)",
    "planttexts": "plant_text(plant) wish_text(wish) plant_from(text) wish_from(text)",
    "plantchains": "chain_of_plant(plant) plant_of_chain(chain,lots)",
    "known": "after(arena,lot,row,reading) readings_after(arena,lot,row) known(arena,readings,rows) "
             "lots_reached(arena) single(arena)",
    "loops": "judge(game,book) judge_asked(game,book) is_guard(game,book) is_asked_guard(game,book) "
             "walk(arena,book,picks,*,asks=())",
    "tables": "broken(game,lots) is_table(game,lots)",
    "freest": "lets(table,readings,rows) refused_at(table,readings,rows)",
    "drums": "drum_of(table) is_drum(table,rows)",
    "plays": "play_of(game) is_play(game,play) reason_wrong(game,play) beaten(game,play,book) lasts(game,cycles)",
    "around": "unlike_around(arena,book,other) needless_around(arena,book) trimmed_around(arena,book,order=())",
    "freestplain": "widest_row(table,lot) pair_open(table)",
    "freeplants": "is_free(game) safe(game) top_row(game,lot)",
    "joined": "joined_game(game,other) split_lot(game,other,joined,lot) joined_books(first,second,game,other)",
    "charts": "check_chart(plant,chart) chart_after(plant,chart,q,changes) chart_row(chart,q) "
              "judge_chart(plant,wish,chart)",
    "carried": "carried_by(arena,chart) is_carried(arena,chart) carried_upto(plant,chart)",
    "onebyone": "freest_chart(plant,wish) rest_of(plant,wish) let_rows(plant,wish,standing)",
    "manychanges": "rows_at(plant,wish,standing,most) guard_at(plant,wish,most) greatest_most(plant,wish) "
                   "row_for(plant,standing,row,least,most,reading,after) shut_shortest(plant,chart,most)",
    "eyes": "blind_to(plant,places) with_eyes(game,places) enough(game,places) least_eyes(game) "
            "with_faults(game,faults,many) deaf(book,many,places)",
    "noticing": "noticed_within(arena,book) hidden_runs(arena,book,n) hidden_ring(arena,book) noticed_free(arena) "
                "first_false(arena,run)",
    "alarms": "all_faulty(arena,lot) all_sound(arena,lot)",
    "ranks": "due_together(period,offset,other_period,other_offset) "
             "first_together(period,offset,other_period,other_offset) same_for_all_ranks(frame,times,order,other) "
             "ranked(frame,filling,times,order) telling_ranks(frame,times,order,other)",
    "cutting": "who_runs(jobs,ticks) first_miss(jobs) job_ends(jobs,place,many)",
    "worst": "rows_of_response(jobs,place) response(jobs,place) never_misses(jobs) by_periods(jobs) load(jobs)",
    "instants": "stretch(jobs,programs,place,number) one_moment(jobs,programs,place,number) "
                "always_one(jobs,programs,place) torn(jobs,programs,place) torn_bits(jobs,programs,place)",
    "slow": "slowed(arena,times) moves_in_turn(plant,standing,row,least,most,times) slowest(game,limit)",
    "rightness": "like_rights(old,new) smooth_rights(old,new) common_rights(rights,other) places_behind(arena,old) "
                 "loop_smooth(arena,old,new) keeping_rights(game,old,new) keeping_from(game,new,q,x,t)",
    "keptbits": "standing_codes(book) map_by(codes,rights,columns) is_map(codes,rights,columns,pairs) "
                "least_kept(codes,rights) torn_kept(codes,rights,columns)",
    "safemoments": "unsafe_within(old,rights) unsafe_within_loop(arena,old,rights) unsafe_row(old,rights,n)",
    "handing": "keeping_pairs(table,other) always_safe(table,other) both_always(game,other) sets_meet(table,other)",
    "papers": "is_paper(book,readings,output,lot) told_otherwise(book,readings,output,lot) "
              "lean_paper(book,readings,output) what_if(book,readings,place,cycle)",
    "whynot": "why_not(table,lot,row) play_to(game,lot) is_play_to(game,play,lot)",
    "listings": "bits_line(row) history_lines(desk) table_lines(table) play_lines(play) machine_lines(machine)",
}

CLASSES = {
    "books": {"Book": "start step checked run_from run"},
    "rungs": {"Rungs": "__init__ start step bit_in without in_order"},
    "sheets": {"Sheet": "__init__ kept start step wires_in"},
    "chains": {"Chain": "__init__ start step marks_in fired_in in_order"},
    "machines": {"Machine": "__init__ of_rows start step __call__ __len__ __eq__ __add__ __mul__"},
    "joining": {"Beside": "__init__ start step", "InRow": "__init__ start step", "Bent": "__init__ start step"},
    "hangs": {"Stuck": "__init__ start step"},
    "plants": {"Plant": "__init__ possible after_change level_row reading_of free_changes joined"},
    "wishes": {"Wish": "__init__"},
    "arenas": {"Arena": "__init__ __len__ moves readings_at overdue calm sound plant_standing",
               "Game": "__init__ in_never bad ends_at is_end"},
    "tables": {"Table": "__init__ guards __contains__ __getitem__ __len__ __iter__ let_at holding round_of path"},
    "freest": {"Freest": "__init__ start step lot_in row_in"},
    "drums": {"Drummed": "__init__ start step"},
    "freestplain": {"Widest": "__init__ start step"},
    "freeplants": {"Both": "__init__ start step"},
    "carried": {"Carrier": "__init__ start step lot_of"},
    "alarms": {"Watched": "__init__ start step lot_known"},
    "tasks": {"Tasks": "__init__ start step due in_rank"},
    "safemoments": {"Changed": "__init__ start step"},
    "handing": {"Handed": "__init__ start step changed lot_in"},
    "desks": {"Desk": "__init__ __iter__ cycle change back tried branch history cycles deeds lot is_sure is_sound may_be "
                      "bad_now would_let",
              "Trial": "__init__ __enter__ __exit__"},
}

CREATED = {
    ("rungs", "Rungs"): "(self, inputs, outputs, cells, rungs, *, timers=(), counters=())",
    ("sheets", "Sheet"): "(self, inputs, blocks, outputs)",
    ("chains", "Chain"): "(self, inputs, outputs, steps, marked, transitions, actions, *, cells=())",
    ("machines", "Machine"): "(self, inputs, outputs, rows)",
    ("joining", "Beside"): "(self, first, second)",
    ("joining", "InRow"): "(self, first, second)",
    ("joining", "Bent"): "(self, book, wires)",
    ("hangs", "Stuck"): "(self, book, place, bit)",
    ("plants", "Plant"): "(self, machines, outputs, inputs, *, drivers=())",
    ("wishes", "Wish"): "(self, never, ends)",
    ("arenas", "Arena"): "(self, plant, least, most, *, waits=(), faults=(), many=0)",
    ("arenas", "Game"): "(self, arena, wish)",
    ("tables", "Table"): "(self, game)",
    ("freest", "Freest"): "(self, table)",
    ("drums", "Drummed"): "(self, table, rows, *, begin=0)",
    ("freestplain", "Widest"): "(self, table)",
    ("freeplants", "Both"): "(self, first, second)",
    ("carried", "Carrier"): "(self, arena, chart)",
    ("alarms", "Watched"): "(self, arena, book)",
    ("tasks", "Tasks"): "(self, inputs, outputs, tasks)",
    ("safemoments", "Changed"): "(self, old, new, turn, *, since=0)",
    ("handing", "Handed"): "(self, table, other, *, since)",
    ("desks", "Desk"): "(self, game, book)",
    ("desks", "Trial"): "(self, desk)",
}


def module(name):
    return importlib.import_module("guardrungs." + name)


def tree(name):
    with open(module(name).__file__, encoding="ascii") as file:
        return ast.parse(file.read())


class TestInterface(unittest.TestCase):
    def test_functions(self):
        for name, told in FUNCTIONS.items():
            defined = {node.name for node in tree(name).body if isinstance(node, ast.FunctionDef)}
            for one in told.split():
                word, args = one[:-1].split("(", 1)
                self.assertIn(word, defined, name)
                told_args = str(inspect.signature(getattr(module(name), word)))
                self.assertEqual(told_args.replace(" ", ""), f"({args})", one)

    def test_classes(self):
        for name, classes in CLASSES.items():
            bodies = {node.name: node for node in tree(name).body if isinstance(node, ast.ClassDef)}
            for word, methods in classes.items():
                own = {node.name for node in bodies[word].body if isinstance(node, ast.FunctionDef)}
                self.assertLessEqual(set(methods.split()), own, word)

    def test_how_books_are_created(self):
        for (name, word), told in CREATED.items():
            self.assertEqual(str(inspect.signature(getattr(module(name), word).__init__)), told)
        machine = module("machines").Machine
        self.assertIsInstance(inspect.getattr_static(machine, "of_rows"), classmethod)
        self.assertEqual(list(inspect.signature(machine.of_rows).parameters), ["many_inputs", "many_outputs", "rows"])
        for name, word, told in (("sheets", "Sheet", "kept"), ("plants", "Plant", "free_changes"),
                                 ("tables", "Table", "guards"), ("desks", "Desk", "history"), ("desks", "Desk", "cycles"),
                                 ("desks", "Desk", "deeds"), ("desks", "Desk", "lot"), ("desks", "Desk", "is_sure"),
                                 ("desks", "Desk", "is_sound"), ("desks", "Desk", "bad_now")):
            self.assertIsInstance(inspect.getattr_static(getattr(module(name), word), told), property)

    def test_methods_take_what_is_told(self):
        told = {("plants", "Plant"): "possible(self,standing,row) after_change(self,standing,change) "
                                     "level_row(self,standing) reading_of(self,standing,changes) joined(self,other)",
                ("arenas", "Arena"): "moves(self,p,y) readings_at(self,p,y) overdue(self,p,y) calm(self,p,q) "
                                     "sound(self,p) plant_standing(self,p)",
                ("arenas", "Game"): "in_never(self,p) bad(self,p,y) ends_at(self,p) is_end(self,p,j)",
                ("tables", "Table"): "let_at(self,lot) holding(self,lot) round_of(self,lot) path(self,lot,p,j)",
                ("freest", "Freest"): "lot_in(self,standing) row_in(self,standing)",
                ("carried", "Carrier"): "start(self) step(self,standing,reading) lot_of(self,standing)",
                ("alarms", "Watched"): "start(self) step(self,standing,reading) lot_known(self,standing)",
                ("tasks", "Tasks"): "start(self) step(self,standing,reading) due(self,tick) in_rank(self,order)",
                ("handing", "Handed"): "start(self) step(self,standing,reading) changed(self,standing) "
                                       "lot_in(self,standing)",
                ("desks", "Desk"): "cycle(self,pick=0,*,ask=None) change(self,book,standing=None) back(self,deeds=1) "
                                   "tried(self,deeds) branch(self) may_be(self,p) would_let(self,table,reading,ask)"}
        for (name, word), methods in told.items():
            for one in methods.split():
                method, args = one[:-1].split("(", 1)
                given = str(inspect.signature(getattr(getattr(module(name), word), method)))
                self.assertEqual(given.replace(" ", ""), f"({args})", one)

    def test_kinds(self):
        self.assertEqual(module("ticks").KINDS, ("on", "off", "pulse"))

    def test_package_has_a_docstring_alone(self):
        with open(guardrungs.__file__, encoding="ascii") as file:
            body = ast.parse(file.read()).body
        self.assertEqual(len(body), 1)
        self.assertIsInstance(body[0].value.value, str)
        self.assertEqual(os.path.basename(os.path.dirname(guardrungs.__file__)), "guardrungs")


if __name__ == "__main__":
    unittest.main()
