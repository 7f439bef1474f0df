"""Records that are filled [16]."""

import unittest

from hushedpages.blocks import record_of
from hushedpages.books import filled

BOOK = (("who", 2, (("a", "n"), ("b", "o", "b")), ("",)), ("when", 1, (("0123", "0123456789"),), ("", "th", ".")))


def with_words(thing, words):
    """A record, or a part of it, in which each hole gives way to its word."""
    if not isinstance(thing, tuple):
        return thing
    if thing[:1] == ("hole",):
        return "hid", words[thing[1:]]
    return tuple(with_words(inner, words) for inner in thing)


class FilledTest(unittest.TestCase):
    def check(self, text, *blocks, stems=("bob", "12")):
        record = record_of(text)
        self.assertEqual(filled(record, BOOK, stems), blocks)
        self.assertEqual(record, record_of(text))
        self.assertEqual(filled(record, BOOK, stems), blocks)

    def test_each_kind_of_block(self):
        self.check("@head{a @hole{who}}", ("head", (("say", "a"), ("hid", "bob"))))
        self.check("@par{@hole{when}{1} @key{a}}", ("par", (("hid", "12th"), ("key", "a"))))
        self.check("@list{@item{@hole{who}} @item{a @hole{when}}}",
                   ("list", ((("hid", "bob"),), (("say", "a"), ("hid", "12")))))
        self.check("@table{@row{@cell{2}{@hole{who}} @cell{}} @row{@cell{@hole{when}{2}}}}",
                   ("table", (((2, (("hid", "bob"),)), (1, ())), ((1, (("hid", "12."),)),))))
        self.check("@show{@hole{who} x}", ("show", (("hid", "bob"), ("say", "x"))))
        self.check("@figure{3}{@hole{who}}", ("figure", 3, (("hid", "bob"),)))
        self.check("@label{a} @contents @index", ("label", "a"), ("contents",), ("index",))
        self.check("")

    def test_notes_and_pages(self):
        self.check("@label{a} @par{@note{@page{a} @hole{who}} @page{a}}", ("label", "a"),
                   ("par", (("note", (("page", "a"), ("hid", "bob"))), ("page", "a"))))

    def test_formulas(self):
        self.check("@show{@over{@hole{who}}{@up{@hole{when}}} @low{@fence{@hole{when}{1}}}}",
                   ("show", (("over", (("hid", "bob"),), (("up", (("hid", "12"),)),)),
                             ("low", (("fence", (("hid", "12th"),)),)))))
        self.check("@show{@grid{@line{a}{@hole{who}} @line{@hole{when}}{b}}}",
                   ("show", (("grid", (((("say", "a"),), (("hid", "bob"),)), ((("hid", "12"),), (("say", "b"),)))),)))

    def test_any_strings_are_stems(self):
        self.check("@par{@hole{who} @hole{when}{1}}", ("par", (("hid", "x y"), ("hid", "th"))), stems=("x y", ""))
        self.check("@par{@hole{who} @hole{when}}", ("par", (("hid", ""), ("hid", "bob"))), stems=("", "bob"))

    def test_words_that_look_like_kinds_stay(self):
        self.check("@par{hole grid note @key{hole}}", ("par", (("say", "hole"), ("say", "grid"), ("say", "note"),
                                                               ("key", "hole"))))
        self.check("@label{hole} @par{@page{hole}}", ("label", "hole"), ("par", (("page", "hole"),)))

    def test_a_large_record(self):
        holes = "@hole{who} @hole{when} @hole{when}{1} @hole{when}{2}"
        text = (f"@head{{{holes}}} @par{{a {holes} @note{{{holes}}} @key{{b}}}} @list{{@item{{{holes}}} @item{{x}}}} "
                f"@table{{@row{{@cell{{3}}{{{holes}}} @cell{{{holes}}}}} @row{{@cell{{}}}}}} @figure{{6}}{{{holes}}} "
                f"@show{{{holes} @over{{{holes}}}{{@fence{{{holes}}}}} @grid{{@line{{{holes}}}{{a}} @line{{a}}{{{holes}}}}}}}")
        words = {("who", 0): "an", ("when", 0): "39", ("when", 1): "39th", ("when", 2): "39."}
        record = record_of(text)
        self.assertEqual(filled(record, BOOK, ("an", "39")), with_words(record, words))
        self.assertNotIn("hole", repr(filled(record, BOOK, ("an", "39"))))


if __name__ == "__main__":
    unittest.main()
