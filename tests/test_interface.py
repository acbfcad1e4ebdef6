"""The interface: names, the files that define them, arguments, and methods in the very class."""

import ast
import importlib
import inspect
import os
import unittest

import guardrungs

FUNCTIONS = {
    "bits": "is_bit(value) check_row(row,many) rows_of(many) number_of(row) row_at(number,many)",
    "formulas": "is_name(value) check_formula(formula) is_plain(formula) names_of(formula) edges_of(formula) "
                "bit_of(formula,bits) turned(formula) all_of(*formulas) any_of(*formulas)",
    "formtexts": "formula_text(formula) formula_from(text)",
    "decisions": "decision(formula,order) decision_of_bits(bits,order) decided(decision) same_rows(formula,other) "
                 "first_unlike(formula,other,order) hangs_on(formula,name)",
    "ticks": "check_timer(kind,number) timer_start(kind,number) timer_step(kind,number,count,bit) "
             "counter_step(number,count,last,bit,clear)",
    "frames": "check_frame(frame) touching(frame) same_for_all(frame,order,other) telling(frame,order,other) "
              "filled(frame,filling,order) swaps(frame,order,other) count_orders(frame) directions(frame,order)",
    "rungtexts": "rungs_text(book) rungs_from(text)",
    "sheets": "order_of(inputs,blocks) ring_of(inputs,blocks)",
    "versions": "versions_of(book) sheet_of_rungs(book)",
    "unwired": "cells_of(sheet) rungs_of_sheet(sheet)",
    "sheettexts": "sheet_text(sheet) sheet_from(text)",
    "chains": "free(chain)",
    "freechain": "can_fire(chain,marks,lot) marks_reached(chain) doubled_by(chain) stuck_by(chain)",
    "lotsofone": "is_lot_of_one(chain,lot) even_at(chain,lot,place) fires_ever(chain,place) covering(chain) "
                 "is_covering(chain,lots)",
    "exclusive": "overlap(chain) exclusive(chain)",
    "chainrungs": "chain_cells(chain) rungs_of_chain(chain)",
    "chaintexts": "chain_text(chain) chain_from(text)",
    "machines": "machine_of(book)",
    "least": "least(machine) classes(machine) rounds(machine) told_apart(machine,s,t) alike_machines(m,n)",
    "formsof": "rungs_of(machine) sheet_of(machine) chain_of(machine)",
}

CLASSES = {
    "books": {"Book": "start step checked run_from run"},
    "rungs": {"Rungs": "__init__ start step bit_in without in_order"},
    "sheets": {"Sheet": "__init__ kept start step wires_in"},
    "chains": {"Chain": "__init__ start step marks_in fired_in in_order"},
    "machines": {"Machine": "__init__ of_rows start step __call__ __len__ __eq__ __add__ __mul__"},
}

CREATED = {
    ("rungs", "Rungs"): "(self, inputs, outputs, cells, rungs, *, timers=(), counters=())",
    ("sheets", "Sheet"): "(self, inputs, blocks, outputs)",
    ("chains", "Chain"): "(self, inputs, outputs, steps, marked, transitions, actions, *, cells=())",
    ("machines", "Machine"): "(self, inputs, outputs, rows)",
}


def module(name):
    return importlib.import_module("guardrungs." + name)


def tree(name):
    with open(module(name).__file__, encoding="ascii") as file:
        return ast.parse(file.read())


class TestInterface(unittest.TestCase):
    def test_functions(self):
        for name, told in FUNCTIONS.items():
            defined = {node.name for node in tree(name).body if isinstance(node, ast.FunctionDef)}
            for one in told.split():
                word, args = one[:-1].split("(")
                self.assertIn(word, defined, name)
                given = inspect.signature(getattr(module(name), word)).parameters.values()
                must = [part for part in given if part.default is part.empty]
                self.assertEqual(len(must), len(args.split(",")), one)
                if "*" in args:
                    self.assertEqual(must[0].kind, must[0].VAR_POSITIONAL)

    def test_classes(self):
        for name, classes in CLASSES.items():
            bodies = {node.name: node for node in tree(name).body if isinstance(node, ast.ClassDef)}
            for word, methods in classes.items():
                own = {node.name for node in bodies[word].body if isinstance(node, ast.FunctionDef)}
                self.assertLessEqual(set(methods.split()), own, word)

    def test_how_books_are_created(self):
        for (name, word), told in CREATED.items():
            self.assertEqual(str(inspect.signature(getattr(module(name), word).__init__)), told)
        machine = module("machines").Machine
        self.assertIsInstance(inspect.getattr_static(machine, "of_rows"), classmethod)
        self.assertEqual(list(inspect.signature(machine.of_rows).parameters), ["many_inputs", "many_outputs", "rows"])
        self.assertIsInstance(inspect.getattr_static(module("sheets").Sheet, "kept"), property)

    def test_kinds(self):
        self.assertEqual(module("ticks").KINDS, ("on", "off", "pulse"))

    def test_package_has_a_docstring_alone(self):
        with open(guardrungs.__file__, encoding="ascii") as file:
            body = ast.parse(file.read()).body
        self.assertEqual(len(body), 1)
        self.assertIsInstance(body[0].value.value, str)
        self.assertEqual(os.path.basename(os.path.dirname(guardrungs.__file__)), "guardrungs")


if __name__ == "__main__":
    unittest.main()
