"""The interface: names, arguments and defaults, each function and class defined in the file that lists it."""

import importlib
import inspect
import unittest

FUNCTIONS = {
    "calmcuts.parts": {
        "part": "(above, below)",
        "plus": "(one, other)",
        "minus": "(one, other)",
        "times": "(one, other)",
        "over": "(one, other)",
        "less": "(one, other)",
        "part_text": "(one)",
        "read_part": "(text)",
    },
    "calmcuts.boxes": {
        "is_box": "(thing)",
        "box_of": "(wide, high, *, left=0, top=0)",
        "area": "(box)",
        "shape": "(box)",
        "holds": "(box, x, y)",
        "touching": "(one, other)",
        "split": "(box, weights, *, side='down')",
    },
    "calmcuts.rows": {
        "laid": "(box, weights, sizes, *, side='down')",
        "row_shape": "(box, weights, first, size, *, side='down')",
        "worst": "(box, weights, sizes, *, side='down')",
    },
    "calmcuts.best": {
        "best": "(box, weights, *, side='down')",
        "greedy": "(box, weights, *, side='down')",
        "least": "(box, weights, *, side='down')",
        "beginnings": "(box, weights, bound, *, side='down')",
        "shuts": "(box, weights, bound, some, *, side='down')",
    },
    "calmcuts.slices": {
        "sliced": "(box, weights, tree)",
        "slices_worst": "(box, weights, tree)",
        "best_slices": "(box, weights)",
        "refuted": "(box, weights, bound)",
        "refutes": "(box, weights, bound, paper)",
    },
    "calmcuts.calm": {
        "calm": "(box, weights, bound, kept, *, side='down')",
        "numbers": "(box, weights, bound, kept, *, side='down')",
        "shown": "(box, weights, bound, kept, told, *, side='down')",
        "sway": "(weights, others)",
    },
    "calmcuts.squares": {
        "drawn": "(boxes, wide, high, columns, rows)",
    },
    "calmcuts.ways": {
        "neighbours": "(boxes, name)",
        "way": "(boxes, one, other)",
    },
}
CLASSES = {
    "calmcuts.errors": {
        "CutError": "()", "BadPart": "()", "BadBox": "()", "BadWeight": "()", "BadSide": "()", "BadSizes": "()",
        "BadBound": "()", "BadName": "()", "BadPlace": "()", "BadDeed": "()", "BadText": "(at)", "Taken": "(name)",
        "Full": "(what)", "NotEmpty": "(name)", "Within": "(name)", "Missing": "(name)", "NoName": "(name)",
        "NoNest": "(name)", "Bare": "(name)", "NothingLeft": "()",
    },
}


class Interface(unittest.TestCase):
    def test_functions(self):
        self.check(FUNCTIONS, inspect.isfunction)

    def test_classes(self):
        self.check(CLASSES, inspect.isclass)

    def check(self, files, is_of_kind):
        for file, names in files.items():
            module = importlib.import_module(file)
            for name, arguments in names.items():
                with self.subTest(f"{file}.{name}"):
                    found = getattr(module, name)
                    self.assertTrue(is_of_kind(found))
                    self.assertEqual(found.__module__, file)
                    self.assertEqual(str(inspect.signature(found)), arguments)


if __name__ == "__main__":
    unittest.main()
