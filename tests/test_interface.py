"""The names and arguments of the interface."""

import importlib
import inspect
import unittest

FUNCTIONS = {
    "tokens": {"tokens_of": ["text"]},
    "reading": {"read_tree": ["text"]},
    "writing": {"write_tree": ["tree"]},
    "macros": {"check_macros": ["tree"], "length_of": ["tree"], "nesting_of": ["tree"], "expanded": ["tree"]},
    "blocks": {"blocks_of": ["tree"], "record_of": ["text"]},
    "styles": {"check_style": ["style"]},
    "shapes": {"signs_of": ["style", "word", "first", "behind"], "shape_of": ["style", "word"],
               "piece_width": ["shape", "first", "last"]},
    "books": {"check_book": ["book"], "check_record": ["record", "book"], "filled": ["record", "book", "stems"]},
    "stocks": {"stems_many": ["stock"], "stem_at": ["stock", "k"], "place_in": ["stock", "stem"]},
}


class InterfaceTest(unittest.TestCase):
    def test_each_function_is_defined_in_its_file_with_its_arguments(self):
        for file, functions in FUNCTIONS.items():
            module = importlib.import_module(f"hushedpages.{file}")
            for name, arguments in functions.items():
                with self.subTest(f"{file}.{name}"):
                    function = getattr(module, name)
                    self.assertTrue(inspect.isfunction(function))
                    self.assertEqual(function.__module__, f"hushedpages.{file}")
                    self.assertEqual(list(inspect.signature(function).parameters), arguments)


if __name__ == "__main__":
    unittest.main()
