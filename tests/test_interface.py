import inspect
import unittest
from importlib import import_module

INTERFACE = {
    "numbers": {"written": "(order, number, many)", "number_in": "(order, numbers)"},
    "cells": {"is_file": "(thing)", "is_stroke": "(thing)", "cell_of": "(file, cell)", "stroked": "(file, strokes)"},
    "kinds": {"is_known": "(thing)", "width": "(kind)"},
    "worths": {
        "is_worths": "(kind, thing, *, known=(1, 2, 3, 4, 5, 6))",
        "packed": "(order, kind, worths, *, known=(1, 2, 3, 4, 5, 6))",
        "unpacked": "(order, kind, count, cells, *, known=(1, 2, 3, 4, 5, 6))",
    },
    "trees": {
        "is_entry": "(thing, *, known=(1, 2, 3, 4, 5, 6))",
        "is_table": "(thing, *, known=(1, 2, 3, 4, 5, 6))",
        "is_tree": "(thing, *, known=(1, 2, 3, 4, 5, 6))",
        "table_at": "(tree, path, *, known=(1, 2, 3, 4, 5, 6))",
        "entry_at": "(tree, path, tag, *, known=(1, 2, 3, 4, 5, 6))",
    },
    "reading": {"head_of": "(file)", "read": "(file, *, known=(1, 2, 3, 4, 5, 6), root=None)"},
    "maps": {
        "map_of": "(file, *, known=(1, 2, 3, 4, 5, 6), root=None)",
        "lets_map": "(file, thing, *, known=(1, 2, 3, 4, 5, 6), root=None)",
        "cells_in": "(file, *, known=(1, 2, 3, 4, 5, 6), root=None)",
    },
    "saving": {
        "saved": "(file, *, known=(1, 2, 3, 4, 5, 6))",
        "losses": "(file, *, known=(1, 2, 3, 4, 5, 6))",
        "is_part": "(some, tree, *, known=(1, 2, 3, 4, 5, 6))",
    },
    "making": {"made": "(tree, *, room=0)", "turned": "(tree, order)"},
    "least": {"least": "(tree)", "needed": "(tree)", "is_least": "(file)"},
    "deeds": {
        "is_deed": "(thing, *, known=(1, 2, 3, 4, 5, 6))",
        "done": "(tree, deed, *, known=(1, 2, 3, 4, 5, 6))",
    },
    "strokes": {"strokes_of": "(file, deed, *, known=(1, 2, 3, 4, 5, 6), kept=(), room=2)"},
    "cuts": {
        "torn": "(file, strokes, many)",
        "lets_strokes": "(file, deed, thing, *, known=(1, 2, 3, 4, 5, 6), kept=())",
    },
    "alike": {"first_unlike": "(one, other, *, known=(1, 2, 3, 4, 5, 6))"},
    "ways": {"way_to": "(path, tag)", "looked": "(rows)"},
    "machine": {"gone": "(file, rows, *, known=(1, 2, 3, 4, 5, 6))"},
    "grids": {
        "tiles_of": "(grid, *, wide, high)",
        "grid_of": "(tiles, *, size, wide, high)",
        "grid_entries": "(tag, grid, *, wide, high)",
        "grid_in": "(tree, path, tag)",
        "put_grid": "(path, tag, grid, *, wide, high)",
        "put_number": "(tree, path, tag, row, column, number)",
    },
    "texts": {"show_tree": "(tree, *, known=(1, 2, 3, 4, 5, 6))", "show_deed": "(deed)"},
    "reader": {"read_tree": "(text, *, known=(1, 2, 3, 4, 5, 6))", "read_deed": "(text)"},
    "figures": {"show_file": "(file)", "read_file": "(text)"},
}

ERRORS = ("TornError", "Spoilt", "NoTable", "NoTag", "NoShare", "Taken", "NoPiece", "TooMany", "TooDeep", "TooGreat", "NoDeed",
          "Raw", "NoWay", "NoGrid", "Busy", "NoText", "NoLine", "NoReader")


class InterfaceTest(unittest.TestCase):
    def test_functions_and_their_arguments(self):
        for module, functions in INTERFACE.items():
            for name, arguments in functions.items():
                with self.subTest((module, name)):
                    function = getattr(import_module("tornentries." + module), name)
                    self.assertEqual(str(inspect.signature(function)), arguments)

    def test_each_stands_in_its_file(self):
        for module, functions in INTERFACE.items():
            for name in functions:
                function = getattr(import_module("tornentries." + module), name)
                self.assertEqual(function.__module__, "tornentries." + module, name)
        for name in ERRORS:
            error = getattr(import_module("tornentries.errors"), name)
            self.assertEqual(error.__module__, "tornentries.errors", name)
