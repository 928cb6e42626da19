"""The interface: names, arguments and defaults, each function and class defined in the file that lists it."""

import importlib
import inspect
import unittest

FUNCTIONS = {
    "calmcuts.parts": {
        "part": "(above, below)",
        "plus": "(one, other)",
        "minus": "(one, other)",
        "times": "(one, other)",
        "over": "(one, other)",
        "less": "(one, other)",
        "part_text": "(one)",
        "read_part": "(text)",
    },
    "calmcuts.boxes": {
        "is_box": "(thing)",
        "box_of": "(wide, high, *, left=0, top=0)",
        "area": "(box)",
        "shape": "(box)",
        "holds": "(box, x, y)",
        "touching": "(one, other)",
        "split": "(box, weights, *, side='down')",
    },
    "calmcuts.rows": {
        "laid": "(box, weights, sizes, *, side='down')",
        "row_shape": "(box, weights, first, size, *, side='down')",
        "worst": "(box, weights, sizes, *, side='down')",
    },
    "calmcuts.best": {
        "best": "(box, weights, *, side='down')",
        "greedy": "(box, weights, *, side='down')",
        "least": "(box, weights, *, side='down')",
        "beginnings": "(box, weights, bound, *, side='down')",
        "shuts": "(box, weights, bound, some, *, side='down')",
    },
    "calmcuts.slices": {
        "sliced": "(box, weights, tree)",
        "slices_worst": "(box, weights, tree)",
        "best_slices": "(box, weights)",
        "refuted": "(box, weights, bound)",
        "refutes": "(box, weights, bound, paper)",
    },
    "calmcuts.calm": {
        "calm": "(box, weights, bound, kept, *, side='down')",
        "numbers": "(box, weights, bound, kept, *, side='down')",
        "shown": "(box, weights, bound, kept, told, *, side='down')",
        "sway": "(weights, others)",
    },
    "calmcuts.squares": {
        "drawn": "(boxes, wide, high, columns, rows)",
    },
    "calmcuts.ways": {
        "neighbours": "(boxes, name)",
        "way": "(boxes, one, other)",
    },
    "calmcuts.pages": {
        "page": "(house)",
        "read_page": "(text)",
    },
}
CLASSES = {
    "calmcuts.errors": {
        "CutError": "()", "BadPart": "()", "BadBox": "()", "BadWeight": "()", "BadSide": "()", "BadSizes": "()",
        "BadBound": "()", "BadName": "()", "BadPlace": "()", "BadDeed": "()", "BadText": "(at)", "Taken": "(name)",
        "Full": "(what)", "NotEmpty": "(name)", "Within": "(name)", "Missing": "(name)", "NoName": "(name)",
        "NoNest": "(name)", "Bare": "(name)", "NothingLeft": "()",
    },
    "calmcuts.house": {"House": "(wide, high, *, bound=(2, 1), side='down')"},
    "calmcuts.desk": {"Desk": "(house)"},
}
METHODS = {
    "calmcuts.house.House": {
        "__init__": "(self, wide, high, *, bound=(2, 1), side='down')",
        "put": "(self, name, nest, at, weight)", "nest": "(self, name, nest, at)", "weigh": "(self, name, weight)",
        "take": "(self, name)", "move": "(self, name, nest, at)", "turn": "(self, nest, side)",
        "resize": "(self, wide, high)", "bind": "(self, bound)", "anew": "(self, nest)", "do": "(self, deed)",
        "together": "(self, deeds)", "undo": "(self)", "redo": "(self)", "size": "(self)", "bound": "(self)",
        "names": "(self)", "is_nest": "(self, name)", "children": "(self, nest)", "rows": "(self, nest)",
        "side": "(self, nest)", "weight": "(self, name)", "place": "(self, name)", "box": "(self, name)",
        "boxes": "(self)", "under": "(self, x, y)", "worst": "(self)", "neighbours": "(self, name)",
        "way": "(self, one, other)", "squares": "(self, columns, rows)", "steps": "(self)", "twin": "(self)",
        "__eq__": "(self, other)", "__len__": "(self)", "__repr__": "(self)",
    },
    "calmcuts.desk.Desk": {"__init__": "(self, house)", "say": "(self, line)"},
}
VALUES = {
    "calmcuts.boxes": {"DOWN": "down", "ACROSS": "across", "MOST_CHILDREN": 12, "MOST_WEIGHT": 400000},
    "calmcuts.slices": {"MOST_SLICED": 6, "MOST_REFUTED": 5},
    "calmcuts.deeds": {"MOST_NAMES": 40, "MOST_DEEP": 4, "MOST_THING": 10000},
    "calmcuts.house": {"BOUND": (2, 1)},
}


class Interface(unittest.TestCase):
    def test_functions(self):
        self.check(FUNCTIONS, inspect.isfunction)

    def test_classes(self):
        self.check(CLASSES, inspect.isclass)

    def test_methods(self):
        for path, names in METHODS.items():
            file, _, name = path.rpartition(".")
            found = getattr(importlib.import_module(file), name)
            for method, arguments in names.items():
                with self.subTest(f"{path}.{method}"):
                    # In the class itself, not only in one above it.
                    self.assertIn(method, vars(found))
                    self.assertEqual(str(inspect.signature(vars(found)[method])), arguments)

    def test_values(self):
        for file, names in VALUES.items():
            for name, value in names.items():
                with self.subTest(f"{file}.{name}"):
                    found = getattr(importlib.import_module(file), name)
                    self.assertEqual(found, value)
                    self.assertIs(type(found), type(value))

    def check(self, files, is_of_kind):
        for file, names in files.items():
            module = importlib.import_module(file)
            for name, arguments in names.items():
                with self.subTest(f"{file}.{name}"):
                    found = getattr(module, name)
                    self.assertTrue(is_of_kind(found))
                    self.assertEqual(found.__module__, file)
                    self.assertEqual(str(inspect.signature(found)), arguments)


if __name__ == "__main__":
    unittest.main()
