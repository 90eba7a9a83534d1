"""The names, files and arguments of the interface."""

import importlib
import inspect
import unittest

FUNCTIONS = {
    "log": "piece_text(age, number, writer, more, part) piece_told(block) pieces_of(record, signs) "
           "told_log(image, signs, first, count, age)",
    "pages": "head_text(head) head_told(block) fresh_image(pages, log_blocks, signs)",
    "tree": "entry_room(signs) node_text(node) node_told(text) value_at(pages, tree, key) last_to(pages, tree, key) "
            "entries_of(pages, tree, low, high) depth(pages, tree)",
    "tree_deeds": "with_entry(pages, tree, key, value) without_key(pages, tree, key) bulk(entries)",
    "tree_pages": "is_sound(pages, tree) reached(pages, tree) stored(pages, tree)",
    "keys": "value_code(value) row_code(values) values_told(code)",
    "records": "deed_text(kind, changes, marks) window_text(least) record_told(text) is_changes(value)",
}
CLASSES = {
    "disk": {"Disk": "__init__(self, image, signs, steps=None) read(self, index) write(self, index, block) flush(self) "
                     "behind(self, choice) images(self)"},
    "log": {"Log": "__init__(self, disk, first, count, age) append(self, record) sync(self)"},
    "pages": {"Pages": "__init__(self, disk) keep(self, lot) read(self, page) spare(self) place(self, page, block) "
                       "turn_to(self, root, age, number, least)"},
}


def signatures(told):
    return [(word.split("(")[0].strip(), "(" + word.split("(")[1] + ")") for word in told.split(")") if word]


class InterfaceTest(unittest.TestCase):
    def test_functions(self):
        for file, told in FUNCTIONS.items():
            module = importlib.import_module("heldpasts." + file)
            for name, arguments in signatures(told):
                function = getattr(module, name)
                self.assertEqual((function.__module__, str(inspect.signature(function))), (module.__name__, arguments))

    def test_classes_define_their_methods_themselves(self):
        for file, classes in CLASSES.items():
            module = importlib.import_module("heldpasts." + file)
            for name, told in classes.items():
                kind = getattr(module, name)
                self.assertEqual((kind.__module__, kind.__bases__), (module.__name__, (object,)))
                for method, arguments in signatures(told):
                    self.assertEqual(str(inspect.signature(vars(kind)[method])), arguments)


if __name__ == "__main__":
    unittest.main()
