"""The faults of the nodes of a tree: what stands where, with which arguments, and in which order [8] to [10]."""

import unittest

from hushedpages.blocks import blocks_of
from hushedpages.errors import BadCall, Misplaced
from hushedpages.reading import read_tree

# Where a node can stand; the places with one set of what may stand there have one name ahead of the blank.
PLACES = {
    "top": "{}",
    "prose of a paragraph": "@par{{{}}}",
    "prose of an item": "@list{{@item{{{}}}}}",
    "cell alone": "@table{{@row{{@cell{{{}}}}}}}",
    "cell with a span": "@table{{@row{{@cell{{2}}{{{}}}}}}}",
    "cell for a note": "@par{{@note{{{}}}}}",
    "plain of a heading": "@head{{{}}}",
    "plain of a caption": "@figure{{1}}{{{}}}",
    "formula": "@show{{{}}}",
    "formula over": "@show{{@over{{{}}}{{a}}}}",
    "formula under": "@show{{@over{{a}}{{{}}}}}",
    "formula up": "@show{{@up{{{}}}}}",
    "formula low": "@show{{@low{{{}}}}}",
    "formula fence": "@show{{@fence{{{}}}}}",
    "formula in a grid": "@show{{@grid{{@line{{a}}{{{}}}}}}}",
    "list": "@list{{{}}}",
    "table": "@table{{{}}}",
    "row": "@table{{@row{{{}}}}}",
    "grid": "@show{{@grid{{{}}}}}",
}
MAY_STAND = {
    "top": "head par list table show figure label contents index",
    "prose": "word hole page key note",
    "cell": "word hole page",
    "plain": "word hole",
    "formula": "word hole over up low fence grid",
    "list": "item",
    "table": "row",
    "row": "cell",
    "grid": "line",
}
RIGHT = {
    "word": "wo", "head": "@head{a}", "par": "@par{a}", "list": "@list{@item{a}}", "item": "@item{a}",
    "table": "@table{@row{@cell{a}}}", "row": "@row{@cell{a}}", "cell": "@cell{a}", "show": "@show{a}",
    "over": "@over{a}{b}", "up": "@up{a}", "low": "@low{a}", "fence": "@fence{a}", "grid": "@grid{@line{a}}",
    "line": "@line{a}", "figure": "@figure{1}{a}", "label": "@label{n}", "contents": "@contents", "index": "@index",
    "hole": "@hole{n}", "page": "@page{n}", "key": "@key{a}", "note": "@note{a}",
}
NOT_WORDS = ("", "a b", "@up{a}", "1 @up{a}", "@hole{a}")
NOT_NAMES = NOT_WORDS + ("abcdefghi", "a1", "1", "a.", "'")


class NodesTest(unittest.TestCase):
    def refused(self, text, error, name):
        with self.assertRaises(error, msg=text) as caught:
            blocks_of(read_tree(text))
        self.assertEqual(caught.exception.name, name, text)

    def taken(self, text):
        # There is a label n, and something behind each label.
        blocks_of(read_tree(text if "@label" in text else f"@label{{n}} {text} @contents"))

    def test_each_node_at_each_place(self):
        for place, text in PLACES.items():
            for name, node in RIGHT.items():
                with self.subTest(place, node=name):
                    whole = text.format(node)
                    if name in MAY_STAND[place.split()[0]].split():
                        self.taken(whole + " @contents")
                    else:
                        self.refused(whole, Misplaced, "wo" if name == "word" else name)

    def test_words_that_look_like_calls(self):
        for place, text in PLACES.items():
            for name in RIGHT:
                if "word" in MAY_STAND[place.split()[0]].split():
                    self.taken(text.format(name))
                else:
                    self.refused(text.format(name), Misplaced, name)
        self.refused("@show{@grid{@line{a} line}}", Misplaced, "line")
        self.refused("@show{@grid{line @line{a}}}", Misplaced, "line")

    def test_what_is_misplaced_is_not_looked_at(self):
        for place, text in PLACES.items():
            for name in RIGHT:
                if name != "word" and name not in MAY_STAND[place.split()[0]].split():
                    for given in ("", "{}", "{@item}", "{a}{}{}{}{}{}{}"):
                        self.refused(text.format(f"@{name}{given}"), Misplaced, name)

    def test_one_argument_that_is_not_empty(self):
        for name, place in (("head", "{}"), ("par", "{}"), ("item", "@list{{{}}}"), ("note", "@par{{{}}}"), ("show", "{}"),
                            ("up", "@show{{{}}}"), ("low", "@show{{{}}}"), ("fence", "@show{{{}}}")):
            self.taken(place.format(f"@{name}{{a}}"))
            for given in ("", "{}", "{a}{a}", "{a}{}", "{}{a}"):
                self.refused(place.format(f"@{name}{given}"), BadCall, name)

    def test_over(self):
        self.taken("@show{@over{a}{a}}")
        for given in ("", "{a}", "{a}{a}{a}", "{}{a}", "{a}{}", "{}{}"):
            self.refused(f"@show{{@over{given}}}", BadCall, "over")

    def test_lists_tables_and_rows(self):
        for name, place, inner in (("list", "{}", "@item{a}"), ("table", "{}", "@row{@cell{}}"),
                                   ("row", "@table{{{}}}", "@cell{}")):
            self.taken(place.format(f"@{name}{{{inner}}}"))
            self.taken(place.format(f"@{name}{{{inner}{inner}}}"))
            for given in ("", "{}", f"{{{inner}}}{{{inner}}}", f"{{{inner}}}{{}}", f"{{}}{{{inner}}}"):
                self.refused(place.format(f"@{name}{given}"), BadCall, name)
            for other in ("a", "@hole{n}", "@list{@item{a}}"):
                said = other if other == "a" else other[1:5]
                self.refused(place.format(f"@{name}{{{inner}{other}}}"), Misplaced, said)

    def test_cells(self):
        for given in ("{}", "{a}", "{9}", "{1}{}", "{8}{}", "{5}{a}"):
            self.taken(f"@table{{@row{{@cell{given}}}}}")
        for given in ("", "{1}{a}{a}", "{}{}", "{}{a}", "{0}{a}", "{9}{a}", "{10}{a}", "{01}{a}", "{a}{a}", "{1 1}{a}",
                      "{@hole{n}}{a}", "{@up}{a}", "{a}{1}"):
            self.refused(f"@table{{@row{{@cell{given}}}}}", BadCall, "cell")

    def test_grids(self):
        for inner in ("@line{a}", "@line{a}" * 6, "@line{a}{b}{c}" * 2, "@line{a}{a}{a}{a}{a}{a}"):
            self.taken(f"@show{{@grid{{{inner}}}}}")
        for given in ("", "{}", "{@line{a}}{@line{a}}", "{@line{a}}{}", "{" + "@line{a}" * 7 + "}",
                      "{@line{a} @line{a}{b}}", "{@line{a}{b} @line{a}{b} @line{a}}", "{@line{a} @line}",
                      "{a a a a a a a}"):
            self.refused(f"@show{{@grid{given}}}", BadCall, "grid")

    def test_a_grid_with_something_else_than_lines(self):
        self.refused("@show{@grid{@line{a} @line{a}{b} a}}", Misplaced, "a")
        self.refused("@show{@grid{@up{x} @line{a} @line{a}{b}}}", Misplaced, "up")
        self.refused("@show{@grid{@line{a} @up{x}{x}}}", Misplaced, "up")
        self.refused("@show{@grid{@line{a} @line @up{x}}}", BadCall, "line")
        self.refused("@show{@grid{@line{a}{} @line @up{x}}}", BadCall, "line")
        self.refused("@show{@grid{@line{a}{@par} @line @up{x}}}", Misplaced, "par")

    def test_lines(self):
        for many in range(1, 7):
            self.taken("@show{@grid{@line" + "{a}" * many + "}}")
        for given in ("", "{a}" * 7, "{}", "{a}{}", "{}{a}", "{a}{a}{a}{a}{a}{}", "{}" * 6):
            self.refused(f"@show{{@grid{{@line{given}}}}}", BadCall, "line")
            self.refused(f"@show{{@grid{{@line{given} @line{given}}}}}", BadCall, "line")

    def test_figures(self):
        for given in ("{1}{}", "{6}{}", "{3}{a @hole{n}}"):
            self.taken(f"@figure{given}")
        for given in ("", "{1}", "{1}{a}{a}", "{}{}", "{}{a}", "{0}{a}", "{7}{a}", "{10}{a}", "{06}{}", "{a}{a}", "{a}{1}",
                      "{1 1}{a}", "{@hole{n}}{}"):
            self.refused(f"@figure{given}", BadCall, "figure")

    def test_holes(self):
        for place in ("@par{{{}}}", "@head{{{}}}", "@show{{{}}}", "@par{{@note{{{}}}}}", "@figure{{1}}{{{}}}"):
            for given in ("{a}", "{abcdefgh}", "{par}", "{n}{0}", "{n}{1}", "{n}{2}"):
                self.taken(place.format("@hole" + given))
            bent = ["", "{n}{0}{}", "{n}{}", "{n}{3}", "{n}{00}", "{n}{a}", "{n}{0 1}", "{n}{@up{0}}", "{1}{n}", "{}{}"]
            bent.extend(f"{{{inner}}}" for inner in NOT_NAMES)
            bent.extend(f"{{{inner}}}{{1}}" for inner in NOT_NAMES)
            for given in bent:
                self.refused(place.format("@hole" + given), BadCall, "hole")

    def test_labels_and_pages(self):
        for name, text in (("label", "@label{} @par{{a}}"), ("page", "@par{{@page{}}}")):
            self.taken(text.format("{n}"))
            for given in ["", "{n}{n}", "{n}{}", "{n}{1}"] + [f"{{{inner}}}" for inner in NOT_NAMES]:
                self.refused(text.format(given), BadCall, name)

    def test_keys(self):
        for word in ("a", "1", "abcdefghijklmnop", "*"):
            self.taken(f"@par{{@key{{{word}}}}}")
        for given in ["", "{a}{a}", "{a}{}"] + [f"{{{inner}}}" for inner in NOT_WORDS]:
            self.refused(f"@par{{@key{given}}}", BadCall, "key")

    def test_contents_and_indexes(self):
        for name in ("contents", "index"):
            self.taken(f"@{name}")
            for given in ("{}", "{a}", "{}{}"):
                self.refused(f"@{name}{given}", BadCall, name)

    def test_a_fault_of_a_call_goes_ahead_of_those_in_its_arguments(self):
        self.refused("@par{@item}{a}", BadCall, "par")
        self.refused("@par{@list{a}}", Misplaced, "list")
        self.refused("@list{a}{a}", BadCall, "list")
        self.refused("@figure{0}{@key{}}", BadCall, "figure")
        self.refused("@figure{1}{@key{}}", Misplaced, "key")
        self.refused("@table{@row{@cell{9}{@key{}}}}", BadCall, "cell")
        self.refused("@table{@row{@cell{1}{@key{}}}}", Misplaced, "key")
        self.refused("@show{@over{@par}{}}", BadCall, "over")
        self.refused("@show{@over{@par}{a}}", Misplaced, "par")
        self.refused("@show{@grid{@line{@par}{} @line{a}}}", BadCall, "grid")
        self.refused("@show{@grid{@line{@par}{} @line{a}{a}}}", BadCall, "line")
        self.refused("@show{@grid{@line{@par}{a} @line{}{}}}", Misplaced, "par")
        self.refused("@par{@hole{@par}}", BadCall, "hole")

    def test_faults_from_left_to_right(self):
        self.refused("a @par", Misplaced, "a")
        self.refused("@par a", BadCall, "par")
        self.refused("@par{a @up b @note} @par", Misplaced, "up")
        self.refused("@par{a @note b @up} @par", BadCall, "note")
        self.refused("@list{@item{a} @item{@note{@key{a}} @up} x}", Misplaced, "key")
        self.refused("@show{@over{a @up}{@low}}", BadCall, "up")
        self.refused("@show{@over{a}{@low} @up}", BadCall, "low")
        self.refused("@table{@row{@cell{a} @cell} x}", BadCall, "cell")
        self.refused("@table{@row{@cell{@note{}}} x}", Misplaced, "note")
        self.refused("@table{x @row{@cell}}", Misplaced, "x")
        self.refused("@show{@grid{@line{a}{@up} @line{@low}{a}}}", BadCall, "up")


if __name__ == "__main__":
    unittest.main()
