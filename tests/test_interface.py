"""The names and arguments of the interface."""

import importlib
import inspect
import unittest

FUNCTIONS = {
    "tokens": {"tokens_of": ["text"]},
    "reading": {"read_tree": ["text"]},
    "writing": {"write_tree": ["tree"]},
    "macros": {"check_macros": ["tree"], "length_of": ["tree"], "nesting_of": ["tree"], "expanded": ["tree"]},
    "blocks": {"blocks_of": ["tree"], "record_of": ["text"]},
    "styles": {"check_style": ["style"]},
    "shapes": {"signs_of": ["style", "word", "first", "behind"], "shape_of": ["style", "word"],
               "piece_width": ["shape", "first", "last"]},
    "books": {"check_book": ["book"], "check_record": ["record", "book"], "filled": ["record", "book", "stems"]},
    "stocks": {"stems_many": ["stock"], "stem_at": ["stock", "k"], "place_in": ["stock", "stem"]},
    "joint": {"joint_shape": ["styles", "secret", "stem"], "shapes_of": ["styles", "secret"],
              "stem_with": ["styles", "secret", "shape", "k"], "place_with": ["styles", "secret", "stem"]},
    "families": {"family": ["book", "styles"], "first_stems": ["book", "styles", "filling"],
                 "filling_of": ["book", "styles", "stems"]},
    "nets": {"least_way": ["net"], "bounds_of": ["net"], "judge_bounds": ["net", "total", "bounds"]},
    "lines": {"positions": ["shapes"], "line_net": ["measure", "ladder", "shapes"],
              "least_lines": ["measure", "ladder", "shapes"]},
    "rows": {"set_words": ["style", "measure", "words", "ragged"]},
    "tables": {"boundaries": ["tracks", "cells"], "chain_of": ["tracks", "cells", "boundary"],
               "judge_chain": ["tracks", "cells", "boundary", "value", "chain"], "table_strips": ["style", "rows"]},
    "formulas": {"box_of": ["style", "formula"], "shown": ["style", "formula"]},
    "flows": {"flow_of": ["filled", "style", "numbers"], "stack_of": ["flow"]},
    "columns": {"states": ["stack"], "column_net": ["depth", "late", "stack"],
                "least_columns": ["depth", "late", "stack"]},
    "numbers": {"first_numbers": ["record"], "found_numbers": ["filled", "style", "numbers"]},
    "sheets": {"settled": ["filled", "style"], "print_of": ["sheets"], "look_of": ["sheets"]},
    "device": {"drawn": ["file"]},
    "files": {"file_of": ["pages"]},
    "reader": {"read_back": ["style", "pages"]},
    "curtains": {"draw": ["step", "look"]},
    "looks": {"look_with": ["record", "book", "style", "stems"],
              "views_of": ["record", "book", "styles", "which", "steps"]},
    "plans": {"is_safe": ["scene", "members"], "finest": ["scene", "views"], "reasons_of": ["scene", "views"],
              "careless": ["scene", "views"], "told_at": ["views", "plan", "k"],
              "keeps_promise": ["scene", "views", "plan"]},
    "plancheck": {"judge_plan": ["scene", "views", "plan", "paper"]},
    "charts": {"chart_of": ["fillings"], "read_chart": ["chart"], "ties_of": ["fillings"]},
    "copies": {"told_by": ["record", "book", "styles", "which", "copy"],
               "stems_told": ["record", "book", "styles", "which", "copy", "k"]},
}
CLASSES = {
    "curtains": {"Curtains": {"__init__": ["self", "steps"], "__call__": ["self", "look"], "steps": property}},
    "office": {"Office": {
        "__init__": ["self", "book", "styles", "stems", "readers", "circles"], "act": ["self", "deed"],
        "acts": ["self", "deeds"], "tried": ["self", "deeds"], "trial": ["self"], "deeds": property,
        "again": ["self", "deeds"], "known": ["self", "circle"], "ways": ["self", "circle", "secret"],
        "ties": ["self", "circle"], "many": ["self", "circle"], "possible": ["self", "circle", "k"],
        "notices": ["self", "reader"], "would": ["self", "reader", "filling"], "plan_of": ["self", "deed"],
        "counts_left": ["self"], "fillings_left": ["self"]}},
}


class InterfaceTest(unittest.TestCase):
    def test_each_function_is_defined_in_its_file_with_its_arguments(self):
        for file, functions in FUNCTIONS.items():
            module = importlib.import_module(f"hushedpages.{file}")
            for name, arguments in functions.items():
                with self.subTest(f"{file}.{name}"):
                    function = getattr(module, name)
                    self.assertTrue(inspect.isfunction(function))
                    self.assertEqual(function.__module__, f"hushedpages.{file}")
                    self.assertEqual(list(inspect.signature(function).parameters), arguments)

    def test_default_values(self):
        for file, functions in FUNCTIONS.items():
            for name in functions:
                function = getattr(importlib.import_module(f"hushedpages.{file}"), name)
                given = {argument.name: argument.default for argument in inspect.signature(function).parameters.values()
                         if argument.default is not argument.empty}
                self.assertEqual(given, {"ragged": False} if name == "set_words" else {})

    def test_each_method_stands_in_the_body_of_its_class(self):
        for file, classes in CLASSES.items():
            module = importlib.import_module(f"hushedpages.{file}")
            for name, methods in classes.items():
                told = getattr(module, name)
                self.assertTrue(inspect.isclass(told))
                self.assertEqual(told.__module__, f"hushedpages.{file}")
                for method, arguments in methods.items():
                    with self.subTest(f"{file}.{name}.{method}"):
                        if arguments is property:
                            self.assertIsInstance(vars(told)[method], property)
                        else:
                            self.assertEqual(list(inspect.signature(vars(told)[method]).parameters), arguments)

    def test_the_arguments_of_an_office(self):
        office = importlib.import_module("hushedpages.office").Office
        told = inspect.signature(office).parameters
        self.assertEqual({told[name].kind for name in ("readers", "circles")}, {inspect.Parameter.KEYWORD_ONLY})
        self.assertEqual([told[name].default for name in ("readers", "circles")], [inspect.Parameter.empty, ()])
        self.assertTrue(inspect.isgeneratorfunction(office.acts))
        self.assertIsNotNone(office.deeds.fset)


if __name__ == "__main__":
    unittest.main()
