import unittest

from hushedpages import errors

UNDER = {
    "RecordError": ("PagesError",),
    "LimitError": ("PagesError",),
    "GivenError": ("PagesError",),
    "BadText": ("RecordError", "at"),
    "BadCall": ("RecordError", "name"),
    "Misplaced": ("RecordError", "name"),
    "Unknown": ("RecordError", "name"),
    "Twice": ("RecordError", "name"),
    "TooLong": ("LimitError", "length"),
    "TooLarge": ("LimitError", "part"),
    "TooMany": ("LimitError", "part"),
    "TooWide": ("LimitError", "part"),
    "TooTall": ("LimitError",),
    "BadStyle": ("GivenError", "part"),
    "BadSecret": ("GivenError", "at", "part"),
    "BadEnding": ("GivenError", "name"),
    "NoStem": ("GivenError", "stem"),
    "Untrue": ("GivenError", "stem"),
    "BadFile": ("GivenError", "at"),
    "BadStep": ("GivenError", "at"),
}
GROUPS = ("RecordError", "LimitError", "GivenError")


class ErrorsTest(unittest.TestCase):
    def test_the_root_stands_under_value_error(self):
        self.assertEqual(errors.PagesError.__bases__, (ValueError,))

    def test_each_stands_directly_under_its_class(self):
        for name, (above, *_) in UNDER.items():
            with self.subTest(name):
                self.assertEqual(getattr(errors, name).__bases__, (getattr(errors, above),))

    def test_each_is_defined_in_the_file(self):
        for name in ["PagesError", *UNDER]:
            with self.subTest(name):
                self.assertEqual(getattr(errors, name).__module__, "hushedpages.errors")

    def test_each_keeps_its_arguments(self):
        for name, (_, *given) in UNDER.items():
            if name in GROUPS:
                continue
            values = [10 ** 400 + k if part in ("at", "length") else f"v{k}" for k, part in enumerate(given)]
            with self.subTest(name):
                error = getattr(errors, name)(*values)
                self.assertEqual([getattr(error, part) for part in given], values)
                named = getattr(errors, name)(**dict(zip(given, values)))
                self.assertEqual([getattr(named, part) for part in given], values)

    def test_each_is_caught_by_the_classes_above(self):
        for name, (above, *given) in UNDER.items():
            if name in GROUPS:
                continue
            for caught in (getattr(errors, above), errors.PagesError, ValueError):
                with self.subTest(name, caught=caught):
                    with self.assertRaises(caught):
                        raise getattr(errors, name)(*["x" for _ in given])

    def test_each_takes_no_other_number_of_arguments(self):
        for name, (_, *given) in UNDER.items():
            if given:
                with self.subTest(name):
                    with self.assertRaises(TypeError):
                        getattr(errors, name)()
                    with self.assertRaises(TypeError):
                        getattr(errors, name)(*["x" for _ in given], "y")


if __name__ == "__main__":
    unittest.main()
