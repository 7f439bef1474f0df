"""The worked examples of the document, and those of README.md."""

import doctest
import pathlib
import unittest

EXAMPLES = """
>>> from hushedpages.macros import length_of, expanded
>>> from hushedpages.reading import read_tree
>>> length_of(read_tree('@let{m p}{@p @p} @m{@m{a b}}'))
8
>>> from hushedpages.blocks import record_of
>>> record_of('@par{ab @hole{who}{1}}')
(('par', (('say', 'ab'), ('hole', 'who', 1))),)
>>> from hushedpages.shapes import shape_of, signs_of
>>> style = (12, 3, 1, (('m', 2),), (('m', 'a', 1),), (('a', 'n', 5),), (0, 0, 0, 0, 0))
>>> shape_of(style, 'mana')
(4, ((3, 2, 5),))
>>> signs_of(style, 'mana', 0, 1)
'm_-'
>>> S = (12, 3, 1, (), (), (), (0, 0, 0, 0, 0))
>>> from hushedpages.rows import set_words
>>> set_words(S, 7, (('aa', 0), ('bb', 0), ('cc', 0), ('dd', 1)))
(('aa   bb', '       '), ('cc dd  ', '   ##  '))
>>> from hushedpages.tables import boundaries, chain_of
>>> boundaries(2, ((0, 1, 2), (1, 1, 3), (0, 2, 8)))
(0, 3, 9)
>>> chain_of(2, ((0, 1, 2), (1, 1, 3), (0, 2, 8)), 2)
(0, 2)
>>> from hushedpages.formulas import box_of
>>> box_of(S, (('over', (('say', 'a'),), (('say', 'bcd'),)), ('up', (('say', 'e'),))))
(1, ((' a e', '    '), ('--- ', '    '), ('bcd ', '    ')))
>>> from hushedpages.columns import least_columns
>>> least_columns(3, 0, (((0, 1, 0), (0, 1, 0), (0, 1, 0), (0, 1, 0)), ()))
((0, 0), (3, 0), (4, 0))
>>> from hushedpages.files import file_of
>>> file_of((('ab ', '###'),))
(3, 2, '"ab"/3#;')
>>> from hushedpages.curtains import draw
>>> draw(('even', 2), (('a# b###',),))
(('a##b###',),)
>>> from hushedpages.plans import finest, careless, told_at, keeps_promise
>>> scene = (((0,), (1,), (2,)), ((1, 1, 1),), (((0, 0, 0), (((0, 2),),)),))
>>> views = (('x', 0), ('x', 0), ('y', 0))
>>> finest(scene, views)
(1, 1, 1)
>>> careless(scene, views)
(0, 0, 1)
>>> told_at(views, (0, 0, 1), 2)
(2,)
>>> keeps_promise(scene, views, (0, 0, 1))
False
>>> from hushedpages.office import Office
>>> book = (('who', 2, (('a', 'n'), ('b', 'o', 'b')), ('',)),)
>>> office = Office(book, (S,), ('bob',), readers=('ann',))
>>> record = (('par', (('hole', 'who', 0), ('say', 'x'))),)
>>> office.act(('hand', 'ann', record, 0, (('rows',),)))
('copy', 1, (('           1', '            ', '############', '            ', '            '),))
>>> office.known(0)
((0,), (1,))
>>> office.act(('tell', 'ann', 'who'))
('told', 'who', 'bob')
>>> office.known(0)
((1,),)
"""
README = pathlib.Path(__file__).resolve().parent.parent / "README.md"


class ExamplesTest(unittest.TestCase):
    def check_examples(self, text):
        test = doctest.DocTestParser().get_doctest(text, {}, self.id(), None, None)
        told = []
        result = doctest.DocTestRunner(verbose=False).run(test, out=told.append)
        self.assertEqual(result.failed, 0, "".join(told))
        self.assertGreater(result.attempted, 0)

    def test_the_examples_of_the_document(self):
        self.check_examples(EXAMPLES)

    def test_the_examples_of_the_readme(self):
        # The closing marks of a block of code are no output of its last example.
        self.check_examples(README.read_text().replace("```", "\n"))


if __name__ == "__main__":
    unittest.main()
