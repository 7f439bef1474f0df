"""The expansion, its length and its nesting [7]."""

import random
import unittest

from hushedpages.errors import TooLarge, TooLong
from hushedpages.macros import expanded, length_of, nesting_of
from hushedpages.reading import read_tree
from hushedpages.writing import write_tree


def plain_expansion(tree):
    """The expansion by plain replacing, inner calls first: a second way to it, without any counting."""
    macros, nodes = {}, []
    for node in tree:
        if node[:2] == ("call", "let"):
            name, *params = [inner[1] for inner in node[2][0]]
            macros[name] = (params, node[2][1])
        else:
            nodes.extend(plain_nodes(node, {}, macros))
    return tuple(nodes)


def plain_nodes(node, worth, macros):
    if node[0] == "word":
        return [node]
    if node[1] in worth:
        return worth[node[1]]
    given = [[x for inner in tree for x in plain_nodes(inner, worth, macros)] for tree in node[2]]
    if node[1] in macros:
        params, body = macros[node[1]]
        return [x for inner in body for x in plain_nodes(inner, dict(zip(params, given)), macros)]
    return [("call", node[1], tuple(map(tuple, given)))]


def plain_length(tree):
    return sum(1 if node[0] == "word" else 1 + sum(map(plain_length, node[2])) for node in tree)


def plain_nesting(tree):
    return max((1 + plain_nesting(given) for node in tree if node[0] == "call" for given in node[2]), default=0)


def random_tree(choose):
    """A tree without faults, with a few macros."""
    arities, nodes = {}, []
    for name in "klmno"[:choose.randrange(6)]:
        params = choose.sample(("p", "q", "k", "l", "m"), choose.randrange(4))
        params = [param for param in params if param != name]
        body = random_nodes(choose, arities, params, 3)
        nodes.append(("call", "let", (tuple(("word", x) for x in (name, *params)), body)))
        arities[name] = len(params)
        nodes.extend(random_nodes(choose, arities, (), 1))
    return tuple(nodes) + random_nodes(choose, arities, (), 4)


def random_nodes(choose, arities, params, depth):
    nodes = []
    for _ in range(choose.randrange(4)):
        name = choose.choice(["", "up", "over", *arities, *params])
        if not name:
            nodes.append(("word", choose.choice("xyz")))
        else:
            many = 0 if name in params else arities.get(name, choose.randrange(3))
            if many == 0 or depth > 0:
                given = tuple(random_nodes(choose, arities, params, depth - 1) for _ in range(many))
                nodes.append(("call", name, given))
    return tuple(nodes)


def names(number):
    """So many names of macros."""
    return ["m" + "abcdefghij"[k // 10] + "abcdefghij"[k % 10] for k in range(number)]


def within(name, many, text):
    """Text within so many calls of this name."""
    return f"@{name}{{" * many + text + "}" * many


def chain(first, many, inner):
    """A first macro, and more that each call the one ahead within itself, inner times; and the last one's name."""
    told = names(many)
    parts = [f"@let{{{told[0]} p}}{{{first}}}"]
    parts += [f"@let{{{name} p}}{{{within(ahead, inner, '@p')}}}" for ahead, name in zip(told, told[1:])]
    return " ".join(parts), told[-1]


class ExpansionTest(unittest.TestCase):
    def told(self, text, written):
        """The expansion of the text's tree, as it is written, and its length and nesting."""
        tree = read_tree(text)
        made = expanded(tree)
        self.assertEqual(made, read_tree(written), text)
        self.assertEqual(length_of(tree), plain_length(made), text)
        self.assertEqual(nesting_of(tree), plain_nesting(made), text)

    def test_without_macros_nothing_changes(self):
        for text in ("", "a b", "@par{a @hole{b}{1}} @contents @up{}{}"):
            self.told(text, text)

    def test_definitions_are_left_out(self):
        self.told("a @let{m}{x} b @let{n p}{@zz}".replace("@zz", "@p"), "a b")

    def test_calls_of_macros_are_replaced(self):
        self.told("@let{m}{x y} a @m b @par{@m}", "a x y b @par{x y}")
        self.told("@let{m p q}{@q x @p} @m{a b}{@up{c}}", "@up{c} x a b")
        self.told("@let{m}{x} @let{n}{@m @m} @let{o p}{@n @p @up{@n}} @o{@m}", "x x x @up{x x}")

    def test_words_are_no_calls(self):
        self.told("let m @let{m p}{m p @p let par} m p @m{p m} let", "let m m p m p p m let par let")

    def test_a_parameter_that_stands_several_times(self):
        self.told("@let{m p}{@p @up{@p @p}} @m{a @low{b}}", "a @low{b} @up{a @low{b} a @low{b}}")

    def test_a_parameter_that_stands_nowhere(self):
        self.told("@let{m p q}{@q} @m{a b}{c}", "c")
        self.told("@let{m p}{} @m{@up{@up{@up{a}}}}", "")
        self.told("@let{m p}{} @let{n q}{@up{@m{@low{@low{@q}}}}} @n{@low{@low{@low{x}}}}", "@up{}")

    def test_empty_arguments(self):
        self.told("@let{m p}{@up{@p} @p} @m{}", "@up{}")
        self.told("@let{m p}{@p @p} @m{@m{@m{}}}", "")
        self.told("@let{e}{} @let{m p}{@p x} @m{@e} @e", "x")

    def test_a_parameter_hides_a_macro(self):
        self.told("@let{p}{macro} @let{m p}{@p @up{@p}} @m{given} @p", "given @up{given} macro")
        self.told("@let{p q}{@q @q} @let{m p}{@p} @m{@p{x}}", "x x")

    def test_a_call_in_an_argument_keeps_its_meaning(self):
        self.told("@let{f}{macro} @let{g f}{@f} @g{@f}", "macro")
        self.told("@let{f x}{a @x} @let{g f}{@f @f} @g{@f{b}}", "a b a b")
        self.told("@let{g p q}{@p @q} @let{h p q}{@g{@q}{@p}} @h{1}{2}", "2 1")
        self.told("@let{g p}{@p} @let{h p}{@g{@up{@p}}} @h{@h{x}}", "@up{@up{x}}")
        self.told("@let{g q}{[@q]} ".replace("[", "(").replace("]", ")") + "@let{h p q}{@g{@p @q} @g{@q}} @h{1}{2}",
                  "( 1 2 ) ( 2 )")

    def test_built_in_calls_stay(self):
        self.told("@let{m p}{@hole{@p}{1}} @par{@m{who}} @grid{@line{@m{x}}}",
                  "@par{@hole{who}{1}} @grid{@line{@hole{x}{1}}}")

    def test_an_empty_argument_counts_in_the_nesting(self):
        for text, nesting in (("", 0), ("a @contents", 0), ("@up{}", 1), ("@up{@up{}}", 2), ("@up{a}{@up{}{b}}", 2),
                              ("@let{m p}{@up{@p}} @m{}", 1), ("@let{m p}{@up{@p}} @m{@up{}}", 2),
                              ("@let{m p}{@p} @m{@m{@m{a}}}", 0), ("@let{m p}{} @m{@up{}}", 0)):
            self.assertEqual(nesting_of(read_tree(text)), nesting, text)

    def test_the_length_counts_words_and_calls(self):
        for text, length in (("", 0), ("a b", 2), ("@contents", 1), ("@up{}", 1), ("@up{a @up{b}}{c}", 5),
                             ("@let{m p}{@p @p} @m{@m{a b}}", 8), ("@let{m}{a b c}", 0)):
            self.assertEqual(length_of(read_tree(text)), length, text)

    def test_lengths_of_3000_and_3001(self):
        define = "@let{ten p}{@p @p @p @p @p @p @p @p @p @p} "
        tree = read_tree(define + "@ten{@ten{@ten{a b c}}}")
        self.assertEqual(expanded(tree), (("word", "a"), ("word", "b"), ("word", "c")) * 1000)
        tree = read_tree(define + "@ten{@ten{@ten{a b c}}} d")
        with self.assertRaises(TooLong) as caught:
            expanded(tree)
        self.assertEqual(caught.exception.length, 3001)
        self.assertEqual(length_of(tree), 3001)
        self.assertEqual(len(expanded(read_tree("a " * 3000))), 3000)
        with self.assertRaises(TooLong):
            expanded(read_tree("a " * 3000 + "@contents"))

    def test_the_same_with_a_macro_without_parameters(self):
        define = "@let{m}{" + "x " * 3000 + "}"
        self.assertEqual(len(expanded(read_tree(define + "@m"))), 3000)
        with self.assertRaises(TooLong) as caught:
            expanded(read_tree(define + "@m @m"))
        self.assertEqual(caught.exception.length, 6000)

    def test_nestings_of_20_and_21(self):
        define = "@let{ten p}{" + within("up", 10, "@p") + "} "
        tree = read_tree(define + "@ten{@ten{a}}")
        made = (("word", "a"),)
        for _ in range(20):
            made = (("call", "up", (made,)),)
        self.assertEqual(nesting_of(tree), 20)
        self.assertEqual(expanded(tree), made)
        self.assertEqual(nesting_of(read_tree(define + "@ten{@ten{}}")), 20)
        self.assertEqual(expanded(read_tree(define + "@let{more p}{@ten{@ten{@p}}} @more{a}")), made)
        tree = read_tree(define + "a @ten{@ten{@low{}}}")
        self.assertEqual(nesting_of(tree), 21)
        with self.assertRaises(TooLarge) as caught:
            expanded(tree)
        self.assertEqual(caught.exception.part, "nesting")

    def test_what_is_too_long_goes_ahead_of_what_is_too_nested(self):
        define = "@let{ten p}{" + within("up", 10, "@p") + "} @let{many}{" + "x " * 3000 + "} "
        with self.assertRaises(TooLong) as caught:
            expanded(read_tree(define + "@ten{@ten{@ten{@many}}}"))
        self.assertEqual(caught.exception.length, 3030)
        with self.assertRaises(TooLarge):
            expanded(read_tree(define + "@ten{@ten{@ten{a}}}"))

    def test_a_tree_that_is_itself_too_nested_but_for_what_falls_out(self):
        tree = (("word", "a"),)
        for _ in range(20):
            tree = (("call", "id", (tree,)),)
        tree = read_tree("@let{id p}{@p}") + tree
        self.assertEqual(nesting_of(tree), 0)
        self.assertEqual(expanded(tree), (("word", "a"),))

    def test_lengths_of_hundreds_of_digits(self):
        ten = "@p " * 10
        define, last = chain(ten, 4, 7)
        tree = read_tree(f"{define} a @{last}{{b c}}")
        self.assertEqual(length_of(tree), 2 * 10 ** 343 + 1)
        with self.assertRaises(TooLong) as caught:
            expanded(tree)
        self.assertEqual(caught.exception.length, 2 * 10 ** 343 + 1)
        define, last = chain("@p " * 10 + "x", 4, 9)
        self.assertEqual(length_of(read_tree(f"{define} @{last}{{}}")), (10 ** 729 - 1) // 9)

    def test_nestings_of_many_digits(self):
        define, last = chain(within("up", 10, "@p"), 40, 11)
        tree = read_tree(f"{define} @{last}{{@up{{b}}}}")
        self.assertEqual(nesting_of(tree), 10 * 11 ** 39 + 1)
        self.assertEqual(length_of(tree), 10 * 11 ** 39 + 2)
        with self.assertRaises(TooLong):
            expanded(tree)
        deep = (("call", "p", ()),)
        for _ in range(19):
            deep = (("call", "mbb", (deep,)),)
        tree = read_tree("@let{mbb p}{@up{@p}}") + (("call", "let", ((("word", "z"), ("word", "p")), deep)),)
        self.assertEqual(nesting_of(tree + (("call", "z", ((),)),)), 19)

    def test_large_macros_that_fall_out_or_stay_empty(self):
        define, last = chain("@p @p", 12, 2)
        self.told(f"{define} @{last}{{}} a", "a")
        self.told(f"{define} @let{{drop p q}}{{@q}} @drop{{@{last}{{x}}}}{{b @{last}{{}}}}", "b")
        define, last = chain("@p x @p", 12, 2)
        self.told(f"{define} a", "a")

    def test_many_macros_within_one_another(self):
        define, last = chain("@p", 40, 11)
        self.told(f"{define} @{within(last, 11, 'a b')[1:]}", "a b")
        parts, ahead = ["@let{id p}{@p} @let{maa p}{@p}"], "maa"
        for name in names(38)[1:]:
            parts.append(f"@let{{{name} p}}{{{within('id', 10, f'@{ahead}{{@p}}')}}}")
            ahead = name
        self.told(" ".join(parts) + f" @{ahead}{{a}}", "a")

    def test_random_trees(self):
        choose = random.Random(7)
        seen = 0
        for _ in range(3000):
            tree = random_tree(choose)
            length = length_of(tree)
            if length > 3000:
                with self.assertRaises(TooLong) as caught:
                    expanded(tree)
                self.assertEqual(caught.exception.length, length)
            if length > 20000:
                continue
            made = plain_expansion(tree)
            self.assertEqual(length, plain_length(made), write_tree(tree))
            self.assertEqual(nesting_of(tree), plain_nesting(made), write_tree(tree))
            if length <= 3000 and plain_nesting(made) <= 20:
                self.assertEqual(expanded(tree), made, write_tree(tree))
                seen += length > 20
        self.assertGreater(seen, 300)

    def test_the_shape_of_the_answers(self):
        tree = read_tree("@let{m p}{@up{@p}{}} @m{a @m{}}")
        self.check_kinds(expanded(tree))
        self.assertIs(type(length_of(tree)), int)
        self.assertIs(type(nesting_of(tree)), int)
        self.assertIs(type(nesting_of(())), int)
        self.assertEqual(expanded(()), ())

    def check_kinds(self, tree):
        self.assertIs(type(tree), tuple)
        for node in tree:
            self.assertIs(type(node), tuple)
            if node[0] == "call":
                self.assertEqual(len(node), 3)
                self.assertIs(type(node[2]), tuple)
                for given in node[2]:
                    self.check_kinds(given)

    def test_equal_arguments_give_equal_results_in_any_order(self):
        text = "@let{m p}{@p @up{@p}} @m{@m{a}}"
        other = "@let{m p q}{x} @m{}{}"
        first = expanded(read_tree(text))
        tree = read_tree(text)
        for _ in range(2):
            self.assertEqual(expanded(read_tree(other)), (("word", "x"),))
            self.assertEqual((length_of(tree), nesting_of(tree)), (7, 2))
            self.assertEqual(expanded(tree), first)
            self.assertEqual(tree, read_tree(text))


if __name__ == "__main__":
    unittest.main()
