"""The faults of a tree [6]."""

import unittest

from hushedpages.errors import BadCall, TooLarge, Twice, Unknown
from hushedpages.macros import check_macros, expanded, length_of, nesting_of
from hushedpages.reading import read_tree

BUILT_IN = ("let hole page note key head par list item table row cell show over up low fence grid line figure "
            "label contents index").split()
FUNCTIONS = (check_macros, length_of, nesting_of, expanded)


def letters(number):
    """A name for each number, none of them built in."""
    return "m" + "abcdefghij"[number // 10] + "abcdefghij"[number % 10]


class MacrosTest(unittest.TestCase):
    def refused(self, text, error, told):
        """All four functions refuse the tree of the text by this error and its one attribute."""
        tree = read_tree(text)
        for function in FUNCTIONS:
            with self.assertRaises(error, msg=text) as caught:
                function(tree)
            self.assertEqual(list(vars(caught.exception).values()), [told], text)

    def taken(self, text):
        self.assertIsNone(check_macros(read_tree(text)), text)

    def test_trees_without_faults(self):
        for text in ("", "a b", "@par{a}", "@contents{}{}{}", "@let{m}{}", "@let{m}{} @m", "@let{m p q r}{@r @p}",
                     "@let{m p}{@par{@p @p}} @m{a} @m{@m{}}", "@let{a}{x} @let{b}{@a} @par{@a @b}"):
            self.taken(text)

    def test_built_in_calls_take_any_arguments_here(self):
        for name in BUILT_IN[1:]:
            for given in ("", "{}", "{a}{b}{c}", "{@par}"):
                self.taken(f"@{name}{given}")

    def test_there_are_no_other_built_in_names(self):
        for name in ("lets", "pages", "hol", "a", "notes", "tables", "text", "expanded"):
            self.refused(f"@{name}", Unknown, name)
            self.taken(f"@let{{{name}}}{{}} @{name}")

    def test_a_definition_has_two_arguments(self):
        for text in ("@let", "@let{}", "@let{m}", "@let{m}{}{}", "@let{m}{a}{b}{c}"):
            self.refused(text, BadCall, "let")

    def test_the_first_argument_holds_1_to_4_words(self):
        self.refused("@let{}{}", BadCall, "let")
        self.taken("@let{m}{}")
        self.taken("@let{m p q r}{}")
        self.refused("@let{m p q r s}{}", BadCall, "let")
        for text in ("@let{@m}{}", "@let{m @p}{}", "@let{@par{m}}{}", "@let{m @let}{}", "@let{@zz}{}"):
            self.refused(text, BadCall, "let")

    def test_macros_and_parameters_have_names(self):
        for word in ("m1", "1", "m.", "(", "abcdefghi", "a'b"):
            self.refused(f"@let{{{word}}}{{}}", BadCall, "let")
            self.refused(f"@let{{m {word}}}{{}}", BadCall, "let")
        self.taken("@let{abcdefgh abcdefgi}{}")

    def test_macros_and_parameters_have_no_built_in_names(self):
        for name in BUILT_IN:
            self.refused(f"@let{{{name}}}{{}}", BadCall, "let")
            self.refused(f"@let{{m p {name}}}{{}}", BadCall, "let")

    def test_the_names_of_a_definition_differ(self):
        for names in ("m m", "m p p", "m p q p", "m p m"):
            self.refused(f"@let{{{names}}}{{}}", BadCall, "let")

    def test_a_macro_is_defined_once(self):
        self.refused("@let{m}{} @let{m}{}", Twice, "m")
        self.refused("@let{m}{} @m @let{n}{} @let{m p}{@p}", Twice, "m")
        self.taken("@let{m}{} @let{n m}{} @let{o m}{}")

    def test_the_40th_and_the_41st_definition(self):
        text = " ".join(f"@let{{{letters(k)}}}{{}}" for k in range(40))
        self.taken(text + " " + "@par{@maa}")
        self.refused(text + " @let{mea}{}", TooLarge, "macros")
        for more in ("@let", "@let{par}{}", "@let{maa}{}", "@let{mea}{@zz}"):
            self.refused(text + " " + more, TooLarge, "macros")
        self.refused(text + " @zz @let{mea}{}", Unknown, "zz")
        self.refused(text + " @par{@let{mea}{}}", BadCall, "let")

    def test_the_order_at_a_definition(self):
        self.refused("@let{m}{} @let{m}{@zz} ", Twice, "m")
        self.refused("@let{m}{} @let{m m}{@zz}", BadCall, "let")
        self.refused("@let{m}{} @let{m}", BadCall, "let")
        self.refused("@let{m}{@zz}", Unknown, "zz")
        self.refused("@let{m}{@zz} @let{m}{}", Unknown, "zz")

    def test_let_stands_at_the_top_level_alone(self):
        for text in ("@par{@let{m}{}}", "@let{m}{@let{n}{}}", "@par{@let}", "@par{@up{}{@let{@zz}}}",
                     "@let{m p}{} @m{@let{n}{}}"):
            self.refused(text, BadCall, "let")

    def test_a_parameter_takes_no_argument(self):
        self.taken("@let{m p}{@p}")
        self.refused("@let{m p}{@p{}}", BadCall, "p")
        self.refused("@let{m p}{@par{a @up{@p{a}{b}}}}", BadCall, "p")
        self.refused("@let{m p}{@p{@zz}}", BadCall, "p")

    def test_a_parameter_holds_in_its_own_body_alone(self):
        self.refused("@let{m p}{@p} @p", Unknown, "p")
        self.refused("@let{m p}{@p} @let{n q}{@p}", Unknown, "p")
        self.refused("@let{m p}{@p} @m{@p}", Unknown, "p")
        self.taken("@let{m p}{@p} @let{n q}{@m{@q}}")

    def test_a_parameter_hides_a_macro(self):
        self.taken("@let{p q}{@q} @let{m p}{@p}")
        self.refused("@let{p q}{@q} @let{m p}{@p{a}}", BadCall, "p")
        self.refused("@let{p}{} @let{m p}{@up{@p{}}}", BadCall, "p")
        self.taken("@let{p q}{@q} @let{m p}{@p} @p{a}")
        self.refused("@let{p q}{@q} @let{m p}{@p} @p", BadCall, "p")

    def test_a_macro_takes_an_argument_for_each_parameter(self):
        define = "@let{a}{} @let{b p}{} @let{d p q r}{} "
        self.taken(define + "@a @b{} @d{}{}{}")
        for call, name in (("@a{}", "a"), ("@b", "b"), ("@b{}{}", "b"), ("@d{}{}", "d"), ("@d{}{}{}{}", "d")):
            self.refused(define + call, BadCall, name)
            self.refused(define + f"@par{{x}}{{{call}}}", BadCall, name)
            self.refused(define + f"@let{{e}}{{{call}}}", BadCall, name)

    def test_a_macro_is_defined_ahead(self):
        self.refused("@m @let{m}{}", Unknown, "m")
        self.refused("@let{m}{@m}", Unknown, "m")
        self.refused("@let{m p}{@up{@m{}}}", Unknown, "m")
        self.refused("@let{m}{@n} @let{n}{}", Unknown, "n")
        self.refused("@par{@m} @let{m}{}", Unknown, "m")

    def test_unknown_calls(self):
        self.refused("@zz", Unknown, "zz")
        self.refused("a @par{b @up{@zz{c}}}", Unknown, "zz")

    def test_the_order_at_a_call(self):
        self.refused("@let{m p}{} @m{@yy}{@zz}", BadCall, "m")
        self.refused("@yy{@zz}", Unknown, "yy")
        self.refused("@yy{@let}", Unknown, "yy")
        self.refused("@par{@let{@zz}}", BadCall, "let")

    def test_faults_from_left_to_right(self):
        self.refused("@yy @zz", Unknown, "yy")
        self.refused("@par{@xx}{@yy} @zz", Unknown, "xx")
        self.refused("@par{a @up{b @xx} @yy}", Unknown, "xx")
        self.refused("@zz @let", Unknown, "zz")
        self.refused("@let @zz", BadCall, "let")
        self.refused("@let{m p}{} @m{@up{@yy}} @m", Unknown, "yy")

    def test_bodies_that_are_never_called_have_faults_too(self):
        self.refused("@let{m}{@par{@zz}} a", Unknown, "zz")
        self.refused("@let{m p}{} @m{@zz}", Unknown, "zz")

    def test_a_fault_goes_ahead_of_what_is_too_long(self):
        many = "a " * 3001
        self.refused(f"{many} @zz", Unknown, "zz")
        self.refused(f"@let{{m}}{{{many}}} @m @par{{@m{{}}}}", BadCall, "m")


if __name__ == "__main__":
    unittest.main()
