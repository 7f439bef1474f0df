import itertools
import random
import unittest

from hushedpages.errors import BadText
from hushedpages.reading import read_tree
from hushedpages.tokens import tokens_of
from hushedpages.writing import write_tree


def word(text):
    return ("word", text)


def call(name, *given):
    return ("call", name, given)


def can_begin(tokens):
    """Whether a text of right tokens can begin so, told by the grammar alone: can it be read with braces closed?"""
    many = 0
    for token in tokens:
        many += (token == "{") - (token == "}")
        if many < 0:
            return False
    return can_be_read(list(tokens) + ["}"] * many)


def can_be_read(tokens):
    """TEXT: NODE*, by plain search."""
    return any(end == len(tokens) for end in ends_of_nodes(tokens, 0, 0))


def ends_of_nodes(tokens, at, many):
    """All places where a NODE* that begins at this place can end, with so many braces open."""
    ends = [at]
    for end in ends:
        if end < len(tokens) and tokens[end] not in "{}":
            more = [end + 1]
            if tokens[end].startswith("@"):
                for place in more:
                    if place < len(tokens) and tokens[place] == "{" and many < 12:
                        inner = ends_of_nodes(tokens, place + 1, many + 1)
                        more.extend(k + 1 for k in inner if k < len(tokens) and tokens[k] == "}" and k + 1 not in more)
            ends.extend(k for k in more if k not in ends)
    return ends


class ReadingTest(unittest.TestCase):
    def refused_at(self, text):
        with self.assertRaises(BadText) as caught:
            read_tree(text)
        return caught.exception.at

    def test_empty(self):
        for text in ("", " ", "\n \n"):
            self.assertEqual(read_tree(text), ())

    def test_words(self):
        self.assertEqual(read_tree("one 2, three."), (word("one"), word("2,"), word("three.")))
        for sign in "az09.,:;!?'()+=<>*/":
            self.assertEqual(read_tree(f"{sign}@b{{{sign}b}}"), (word(sign), call("b", (word(sign + "b"),))))

    def test_calls(self):
        self.assertEqual(read_tree("@contents @a{} @b{x}{y z}"),
                         (call("contents"), call("a", ()), call("b", (word("x"),), (word("y"), word("z")))))

    def test_arguments_belong_to_the_call_ahead(self):
        self.assertEqual(read_tree("@a @b{x} {y} z"), (call("a"), call("b", (word("x"),), (word("y"),)), word("z")))
        self.assertEqual(read_tree("@a{@b{x}{y}}{z}"),
                         (call("a", (call("b", (word("x"),), (word("y"),)),), (word("z"),)),))
        self.assertEqual(read_tree("@a{@b}{z}"), (call("a", (call("b"),), (word("z"),)),))

    def test_an_argument_without_a_call(self):
        self.assertEqual(self.refused_at("{"), 0)
        self.assertEqual(self.refused_at("{ab}"), 0)
        self.assertEqual(self.refused_at("ab{cd}"), 1)
        self.assertEqual(self.refused_at("@a{{b}}"), 2)
        self.assertEqual(self.refused_at("@a{b{c}}"), 3)
        self.assertEqual(self.refused_at("@a{b}c{d}"), 5)
        for run in ("1", "9z", "(", "/", "?", "z", "a1"):
            self.assertEqual(self.refused_at(f"@a{{b}} {run} {{d}}"), 5)
            self.assertEqual(self.refused_at(f"@a {run} {{}}"), 2)

    def test_a_brace_that_is_not_open(self):
        self.assertEqual(self.refused_at("}"), 0)
        self.assertEqual(self.refused_at("ab cd } ef"), 2)
        self.assertEqual(self.refused_at("@a{b}}"), 4)
        self.assertEqual(self.refused_at("@a}"), 1)

    def test_a_text_that_ends_amid_an_open_brace(self):
        self.assertEqual(self.refused_at("@a{"), 2)
        self.assertEqual(self.refused_at("@a{b @c{d} \n"), 7)
        self.assertEqual(self.refused_at("@a{b}{"), 5)

    def test_tokens_that_fit_nowhere(self):
        for token in ("@", "@abcdefghi", "a" * 17, "-", '"', "A", "#", "_", "[", "|", "~", "\\", "&", "@A"):
            with self.subTest(token):
                self.assertEqual(self.refused_at(token), 0)
                self.assertEqual(self.refused_at("x " + token), 1)
                self.assertEqual(self.refused_at("@a{x} " + token + " }"), 4)
                self.assertEqual(self.refused_at("@a{@b{ " + token), 4)

    def test_the_longest_word_and_call(self):
        self.assertEqual(read_tree("a" * 16 + "@abcdefgh"), (word("a" * 16), call("abcdefgh")))

    def test_the_first_one_is_told(self):
        self.assertEqual(self.refused_at("a } - {"), 1)
        self.assertEqual(self.refused_at("a - } {"), 1)
        self.assertEqual(self.refused_at("@a{ - "), 2)

    def test_the_12th_and_the_13th_open_brace(self):
        tree = (word("x"),)
        for _ in range(12):
            tree = (call("a", tree),)
        self.assertEqual(read_tree("@a{" * 12 + "x" + "}" * 12), tree)
        self.assertEqual(self.refused_at("@a{" * 13 + "x" + "}" * 13), 25)
        self.assertEqual(self.refused_at("@a{" * 13), 25)
        self.assertEqual(self.refused_at("@a{" * 12 + "@b"), 25)
        closed = "@a{" * 12 + "}" * 12
        self.assertEqual(self.refused_at(closed + "{@b{" + "@a{" * 11), 12 * 3 + 3 + 2 * 11 - 1)
        self.assertEqual(len(read_tree(closed + "{@b{" + "@a{" * 10 + "}" * 12)[0][2]), 2)

    def test_every_short_row_of_tokens(self):
        for many in range(7):
            for tokens in itertools.product(("x", "@a", "{", "}"), repeat=many):
                self.check_row(tokens)

    def check_row(self, tokens):
        text = " ".join(tokens)
        wrong = [at for at in range(len(tokens)) if not can_begin(tokens[:at + 1])]
        if wrong:
            self.assertEqual(self.refused_at(text), wrong[0], text)
        elif can_be_read(list(tokens)):
            self.assertEqual(tokens_of(write_tree(read_tree(text))), tokens)
        else:
            self.assertEqual(self.refused_at(text), len(tokens), text)

    def test_long_rows_with_many_braces(self):
        choose = random.Random(5)
        for _ in range(300):
            tokens = []
            for _ in range(60):
                tokens.extend(choose.choice((("@a", "{"), ("@a", "{"), ("}",), ("x",), ("}", "{"))))
            self.check_row(tuple(tokens[:40]))
            self.check_row(tuple(["@a", "{"] * 10 + tokens[:20]))

    def test_the_shape_of_the_answer(self):
        self.check_kinds(read_tree("@a{b @c{}}{d} e"))

    def check_kinds(self, tree):
        self.assertIs(type(tree), tuple)
        for node in tree:
            self.assertIs(type(node), tuple)
            self.assertEqual(len(node), 2 if node[0] == "word" else 3)
            self.assertIs(type(node[1]), str)
            if node[0] == "call":
                self.assertIs(type(node[2]), tuple)
                for given in node[2]:
                    self.check_kinds(given)

    def test_equal_texts_give_equal_trees(self):
        first = read_tree("@a{b}{c}")
        self.refused_at("@a{")
        self.assertEqual(read_tree("@a{b}{c}"), first)
        self.assertEqual(read_tree("@a {\nb } {c}"), first)

    def test_long_texts(self):
        self.assertEqual(len(read_tree("ab " * 100000)), 100000)
        self.assertEqual(len(read_tree("@a" + "{}" * 100000)[0][2]), 100000)


if __name__ == "__main__":
    unittest.main()
