"""The names and arguments of the interface."""

import importlib
import inspect
import unittest

FUNCTIONS = {
    "tokens": {"tokens_of": ["text"]},
    "reading": {"read_tree": ["text"]},
    "writing": {"write_tree": ["tree"]},
    "macros": {"check_macros": ["tree"], "length_of": ["tree"], "nesting_of": ["tree"], "expanded": ["tree"]},
    "blocks": {"blocks_of": ["tree"], "record_of": ["text"]},
    "styles": {"check_style": ["style"]},
    "shapes": {"signs_of": ["style", "word", "first", "behind"], "shape_of": ["style", "word"],
               "piece_width": ["shape", "first", "last"]},
    "books": {"check_book": ["book"], "check_record": ["record", "book"], "filled": ["record", "book", "stems"]},
    "stocks": {"stems_many": ["stock"], "stem_at": ["stock", "k"], "place_in": ["stock", "stem"]},
    "joint": {"joint_shape": ["styles", "secret", "stem"], "shapes_of": ["styles", "secret"],
              "stem_with": ["styles", "secret", "shape", "k"], "place_with": ["styles", "secret", "stem"]},
    "families": {"family": ["book", "styles"], "first_stems": ["book", "styles", "filling"],
                 "filling_of": ["book", "styles", "stems"]},
    "nets": {"least_way": ["net"], "bounds_of": ["net"], "judge_bounds": ["net", "total", "bounds"]},
    "lines": {"positions": ["shapes"], "line_net": ["measure", "ladder", "shapes"],
              "least_lines": ["measure", "ladder", "shapes"]},
    "rows": {"set_words": ["style", "measure", "words", "ragged"]},
    "tables": {"boundaries": ["tracks", "cells"], "chain_of": ["tracks", "cells", "boundary"],
               "judge_chain": ["tracks", "cells", "boundary", "value", "chain"], "table_strips": ["style", "rows"]},
    "formulas": {"box_of": ["style", "formula"], "shown": ["style", "formula"]},
    "flows": {"flow_of": ["filled", "style", "numbers"], "stack_of": ["flow"]},
    "columns": {"states": ["stack"], "column_net": ["depth", "late", "stack"],
                "least_columns": ["depth", "late", "stack"]},
    "numbers": {"first_numbers": ["record"], "found_numbers": ["filled", "style", "numbers"]},
}


class InterfaceTest(unittest.TestCase):
    def test_each_function_is_defined_in_its_file_with_its_arguments(self):
        for file, functions in FUNCTIONS.items():
            module = importlib.import_module(f"hushedpages.{file}")
            for name, arguments in functions.items():
                with self.subTest(f"{file}.{name}"):
                    function = getattr(module, name)
                    self.assertTrue(inspect.isfunction(function))
                    self.assertEqual(function.__module__, f"hushedpages.{file}")
                    self.assertEqual(list(inspect.signature(function).parameters), arguments)

    def test_default_values(self):
        for file, functions in FUNCTIONS.items():
            for name in functions:
                function = getattr(importlib.import_module(f"hushedpages.{file}"), name)
                given = {argument.name: argument.default for argument in inspect.signature(function).parameters.values()
                         if argument.default is not argument.empty}
                self.assertEqual(given, {"ragged": False} if name == "set_words" else {})


if __name__ == "__main__":
    unittest.main()
