import random
import unittest

from hushedpages.reading import read_tree
from hushedpages.tokens import tokens_of
from hushedpages.writing import write_tree


def random_tree(choose, depth):
    nodes = []
    for _ in range(choose.randrange(4)):
        if choose.random() < 0.5:
            nodes.append(("word", choose.choice(("a", "b1", "c.d", "(x)", "z" * 16))))
        else:
            many = choose.randrange(3) if depth > 0 else 0
            given = tuple(random_tree(choose, depth - 1) for _ in range(many))
            nodes.append(("call", choose.choice(("par", "let", "q", "abcdefgh")), given))
    return tuple(nodes)


class WritingTest(unittest.TestCase):
    def test_the_empty_tree(self):
        self.assertEqual(write_tree(()), "")

    def test_one_blank_between_any_two_tokens(self):
        self.assertEqual(write_tree((("word", "a"), ("word", "b,"))), "a b,")
        self.assertEqual(write_tree((("call", "contents", ()), ("word", "x"))), "@contents x")
        tree = (("call", "hole", ((("word", "who"),), (("word", "1"),))), ("call", "par", ((),)))
        self.assertEqual(write_tree(tree), "@hole { who } { 1 } @par { }")

    def test_inner_calls(self):
        self.assertEqual(write_tree(read_tree("@a{@b{c}{@d}e}{}f")), "@a { @b { c } { @d } e } { } f")

    def test_what_is_written_is_read_as_the_same_tree(self):
        choose = random.Random(3)
        for _ in range(300):
            tree = random_tree(choose, 6)
            text = write_tree(tree)
            self.assertEqual(read_tree(text), tree)
            self.assertEqual(" ".join(tokens_of(text)), text)

    def test_a_tree_of_the_greatest_nesting(self):
        tree = ()
        for _ in range(20):
            tree = (("call", "up", (tree,)),)
        self.assertEqual(write_tree(tree), " ".join(["@up {"] * 20 + ["}"] * 20))


if __name__ == "__main__":
    unittest.main()
