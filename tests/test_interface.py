"""The names, files and arguments of the interface."""

import importlib
import inspect
import re
import unittest

FUNCTIONS = {
    "log": "piece_text(age, number, writer, more, part) piece_told(block) pieces_of(record, signs) "
           "told_log(image, signs, first, count, age)",
    "pages": "head_text(head) head_told(block) fresh_image(pages, log_blocks, signs)",
    "tree": "entry_room(signs) node_text(node) node_told(text) value_at(pages, tree, key) last_to(pages, tree, key) "
            "entries_of(pages, tree, low, high) depth(pages, tree)",
    "tree_deeds": "with_entry(pages, tree, key, value) without_key(pages, tree, key) bulk(entries)",
    "tree_pages": "is_sound(pages, tree) reached(pages, tree) stored(pages, tree)",
    "keys": "value_code(value) row_code(values) values_told(code)",
    "records": "deed_text(kind, changes, marks) window_text(least) record_told(text) is_changes(value)",
    "meaning": "meaning_of(image, signs)",
    "serial": "leads(one, other) ring_through(nodes, number) order_of(nodes) pivots(nodes) "
              "kept_nodes(nodes, snapshots)",
    "holds": "hold_text(hold) hold_told(text) hold_marks(name, hold, signs) holds_told(marks) "
             "held_names(holds, changes) changing_names(holds, guards)",
    "conditions": "is_name(value) is_condition(columns, value) truth_of(columns, condition, row) "
                  "meets(columns, condition, row)",
    "schemas": "is_schema(value) fits(schema, value) key_of(schema, row) schema_text(schema) schema_told(text)",
    "tables": "schema_key(name) row_key(schema, key_values) index_entries(schema, row) table_stretches(name)",
    "stretches": "bounds_of(schema, column, condition, wanted=True) stretch_for(schema, columns, condition)",
    "looks": "is_question(book, value) plain_answer(book, question) plans(book, question) "
             "plan_cost(book, question, plan) best_plan(book, question) look(book, question, plan=None)",
    "pairs": "paired(book, question, other_question, on, road) totals(book, question, groups, sums)",
    "batches": "standing(store)",
    "feeds": "feed(store, number) copy_letter(store, number, pieces, index) copy_letters(store, number, size) "
             "letters_from(store, number, size=None) is_letter(value) letter_text(letter) letter_told(text)",
    "script_texts": "command_told(command) command_text(pieces) value_text(value)",
    "judge": "is_note(value) is_history(value) is_given(entries, value) past_of(entries, history, number) "
             "is_snapshot_history(entries, history) edges_of(history) is_ring(history, value) ring_of(history) "
             "pivots_of(history) keeps_edges(history, value) order_of(history) is_right_order(history, value) "
             "right_orders(history) is_serial_order(entries, history, value) told_history(versions)",
}
CLASSES = {
    "disk": {"Disk": "__init__(self, image, signs, steps=None) read(self, index) write(self, index, block) flush(self) "
                     "behind(self, choice) images(self)"},
    "log": {"Log": "__init__(self, disk, first, count, age) append(self, record) sync(self)"},
    "pages": {"Pages": "__init__(self, disk) keep(self, lot) read(self, page) spare(self) place(self, page, block) "
                       "turn_to(self, root, age, number, least)"},
    "store": {"Store": "__init__(self, disk) marks(self) value_at(self, key, number) "
                       "entries(self, low, high, number) versions_of(self, key) newest(self, key) "
                       "changed_behind(self, low, high, number) check_number(self, number) meaning(self) "
                       "add(self, changes, marks=(), commit=True) sync(self) forget(self, least) checkpoint(self)"},
    "sessions": {"Versions": "__init__(self, store) begin(self, serial=False, at=None) vacuum(self, least) "
                             "snapshots(self) commit(self, session, synced=True) "
                             "check_commit(self, session, held=True) "
                             "lay(self, node, serial, changes, marks, synced) history(self) told_order(self)",
                 "Session": "value_at(self, key) entries(self, low, high, back=False) put(self, key, value) "
                            "take(self, key) put_all(self, changes) guard(self, low, high) commit(self) drop(self)"},
    "books": {"Book": "__init__(self, session) tables(self) schema(self, name) make(self, schema) drop(self, name) "
                      "add(self, name, row) change(self, name, key_values, row) take(self, name, key_values) "
                      "add_index(self, name, index) take_index(self, name, index_name) "
                      "row_at(self, name, key_values) rows_of(self, name) entries_of(self, name, index_name) "
                      "keys_through(self, name, plan)"},
    "prepared": {"Keeper": "__init__(self, versions) names(self) told(self, name) prepare(self, session, name) "
                           "settle(self, name) let_go(self, name)"},
    "batches": {"Batch": "__init__(self, versions, most=None) commit(self, session) waiting(self) done(self) "
                         "sync(self)"},
    "followers": {"Follower": "__init__(self, store) entries(self) hear(self, letter) waiting(self) "
                              "letters(self, size)"},
    "server": {"Server": "__init__(self, disk) execute(self, command)"},
}


def signatures(told):
    return [(name, "(" + arguments + ")") for name, arguments in re.findall(r"(\w+)\(((?:[^()]|\(\))*)\)", told)]


class InterfaceTest(unittest.TestCase):
    def test_functions(self):
        for file, told in FUNCTIONS.items():
            module = importlib.import_module("heldpasts." + file)
            for name, arguments in signatures(told):
                function = getattr(module, name)
                self.assertEqual((function.__module__, str(inspect.signature(function))), (module.__name__, arguments))

    def test_classes_define_their_methods_themselves(self):
        for file, classes in CLASSES.items():
            module = importlib.import_module("heldpasts." + file)
            for name, told in classes.items():
                kind = getattr(module, name)
                self.assertEqual((kind.__module__, kind.__bases__), (module.__name__, (object,)))
                for method, arguments in signatures(told):
                    self.assertEqual(str(inspect.signature(vars(kind)[method])), arguments)


if __name__ == "__main__":
    unittest.main()
