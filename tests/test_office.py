"""The office: its deeds, its notices, and what its circles know [38] to [42], [44]."""

import unittest

from hushedpages.blocks import record_of
from hushedpages.errors import BadStep, NoStem, PagesError, TooMany, Twice, Unknown
from hushedpages.looks import look_with
from hushedpages.office import Office
from hushedpages.plans import finest, reasons_of

S = (12, 3, 1, (), (), (), (0, 0, 0, 0, 0))
WHO = ("who", 2, (("a", "n"), ("b", "o", "b")), ("",))
FOUR = ("name", 2, (("a", "bn"), ("b", "o", "bc"), ("d",)), ("", "s"))
HERE = record_of("@par{@hole{who} x}")
NAME = record_of("@par{@hole{name} x}")
ROWS = (("rows",),)
# With these steps, a look of the sum tells only whether both words together have up to three units, or more.
TWINS = (("who", 1, (("a",), ("b", "b"), ("c",) * 3), ("",)), ("twin", 2, (("d",), ("e", "e"), ("f",) * 3), ("",)))
SUM = record_of("@table{@row{@cell{@hole{who} @hole{twin}}}}")
FOLDED = (("wide", 1), ("even", 5))


def page_with(row, number="1"):
    """The look of a record of one page with one row."""
    return ((" " * 11 + number, " " * 12, row.ljust(12), " " * 12, " " * 12),)


COVERED = page_with("#" * 12)


class OfficeTest(unittest.TestCase):
    def office(self, stem="bob", readers=("ann",), circles=(), book=(WHO,), styles=(S,)):
        return Office(book, styles, (stem,) if isinstance(stem, str) else stem, readers=readers, circles=circles)

    def test_the_example_of_the_document(self):
        office = self.office()
        self.assertEqual(office.act(("hand", "ann", HERE, 0, ROWS)), ("copy", 1, COVERED))
        self.assertEqual(office.known(0), ((0,), (1,)))
        self.assertEqual(office.act(("tell", "ann", "who")), ("told", "who", "bob"))
        self.assertEqual(office.known(0), ((1,),))

    def test_a_new_office(self):
        office = self.office(readers=("ann", "ben"), circles=(("ben", "ann"), ("ann",)))
        self.assertEqual(office.deeds, ())
        for circle in range(4):
            self.assertEqual(office.known(circle), ((0,), (1,)))
            self.assertEqual(office.ways(circle, "who"), 2)
            self.assertEqual(office.ties(circle), ((0,),))
            self.assertEqual([office.possible(circle, k) for k in range(office.many(circle))], [("an",), ("bob",)])
        for reader in ("ann", "ben"):
            self.assertEqual((office.notices(reader), office.would(reader, (0,)), office.would(reader, (1,))), ((), (), ()))
        self.assertEqual((office.counts_left(), office.fillings_left()), (((1, 1),), ((0,), (1,))))

    def test_circles_are_not_needed(self):
        self.assertEqual(Office((WHO,), (S,), ("an",), readers=("ann",)).known(0), ((0,), (1,)))
        with self.assertRaises(TypeError):
            Office((WHO,), (S,), ("an",), ("ann",))

    def test_a_copy_that_tells_nothing_needs_no_curtain(self):
        # Both stems have one shape.
        book = (("who", 2, (("a", "nm"),), ("",)),)
        office = self.office("an", book=book)
        self.assertEqual(office.act(("hand", "ann", HERE, 0, ROWS)), ("copy", 0, page_with("## x")))
        self.assertEqual((office.known(0), office.many(0), office.ways(0, "who")), (((0,),), 2, 2))

    def test_a_copy_without_curtains_that_suffice(self):
        office = self.office()
        self.assertEqual(office.act(("hand", "ann", HERE, 0, (("wide", 1),))), ("copy", 2, ()))
        self.assertEqual(office.act(("hand", "ann", HERE, 0, ())), ("copy", 1, ()))
        self.assertEqual(office.known(0), ((0,), (1,)))
        # Each level hangs on the one ahead: pages are left out before anything is covered.
        self.assertEqual(office.act(("hand", "ann", HERE, 0, (("keep", 1), ("all",)))), ("copy", 2, (("#" * 12,) * 5,)))

    def test_a_lower_keep(self):
        office = self.office(book=(("who", 1) + WHO[2:],))
        self.assertEqual(office.act(("hand", "ann", HERE, 0, ROWS)), ("copy", 0, page_with("### x")))
        self.assertEqual((office.known(0), office.ways(0, "who"), office.many(0)), (((1,),), 1, 1))
        self.assertEqual(office.would("ann", (0,)), (("copy", 0, page_with("## x")),))

    def test_a_keep_that_is_higher_than_the_ways(self):
        office = self.office(book=(("who", 1000000000) + WHO[2:],))
        self.assertEqual(office.act(("hand", "ann", HERE, 0, ROWS))[1], 1)
        # All are known from the beginning; nothing that is known hinders a copy that tells nothing.
        self.assertEqual(office.act(("hand", "ann", record_of("@par{x}"), 0, ROWS)), ("copy", 0, page_with("x")))

    def test_only_some_shapes_are_hidden(self):
        # A name with d alone would be known; so all that is as narrow is covered, too.
        office = self.office("boc", book=(FOUR,))
        self.assertEqual(office.counts_left(), ((1, 2, 2),))
        self.assertEqual(office.act(("hand", "ann", NAME, 0, ROWS)), ("copy", 1, COVERED))
        # With each shape of two stems, each copy is seen as it is.
        book = (("name", 2, (("a", "bn"), ("b", "o", "bc")), ("",)),)
        office = self.office("boc", book=book)
        self.assertEqual(office.act(("hand", "ann", NAME, 0, ROWS)), ("copy", 0, page_with("### x")))
        self.assertEqual(office.known(0), ((1,),))
        self.assertEqual([office.possible(0, k) for k in range(office.many(0))], [("bob",), ("boc",)])

    def test_copies_in_two_styles(self):
        wide = (12, 3, 1, (("b", 2),), (), (), (0, 0, 0, 0, 0))
        book = (("name", 2, (("a", "bn"), ("b", "o", "bc")), ("",)),)
        office = self.office("boc", book=book, styles=(S, wide))
        self.assertEqual(office.fillings_left(), ((0,), (1,), (2,), (3,)))
        self.assertEqual(office.act(("hand", "ann", NAME, 0, ROWS)), ("copy", 0, page_with("### x")))
        self.assertEqual(office.known(0), ((2,), (3,)))
        # Now the other style would tell the one from the other.
        self.assertEqual(office.act(("hand", "ann", NAME, 1, ROWS)), ("copy", 1, COVERED))
        self.assertEqual(office.known(0), ((2,), (3,)))
        # Ahead of the first copy, the narrowest and the widest word would be told by it.
        other = self.office("boc", book=book, styles=(S, wide))
        self.assertEqual(other.act(("hand", "ann", NAME, 1, ROWS))[1], 1)

    def test_copies_to_two_readers(self):
        book = (("name", 2, (("a", "bn"), ("b", "o", "bc"), ("d",)), ("", "s")),)
        record = record_of("@par{@hole{name}{1} x}")
        office = self.office("boc", ("ann", "ben"), (("ann", "ben"),), book)
        self.assertEqual(office.act(("hand", "ann", record, 0, ROWS)), ("copy", 1, COVERED))
        self.assertEqual(office.act(("hand", "ben", record, 0, ROWS)), ("copy", 1, COVERED))
        self.assertEqual([office.known(circle) for circle in range(3)], [((0,), (1,), (2,))] * 3)
        self.assertEqual(office.notices("ann"), office.notices("ben"))

    def test_a_circle_puts_together_what_its_readers_were_given(self):
        # By the copy, ann learns something of the sum of both widths; then who with this sum would tell the twin.
        for circles, notice in (((), ("answer", 2)), ((("ann", "ben"),), ("refused",)), ((("cid", "ben"),), ("answer", 2)),
                                ((("cid", "ben", "ann"),), ("refused",))):
            office = Office(TWINS, (S,), ("bb", "d"), readers=("ann", "ben", "cid"), circles=circles)
            self.assertEqual(office.act(("hand", "ann", SUM, 0, FOLDED)), ("copy", 2, page_with("#" * 5)))
            self.assertEqual(office.known(0), ((0, 0), (0, 1), (1, 0)))
            self.assertEqual(len(office.known(1)), 9)
            self.assertEqual(office.act(("ask", "ben", ("width", "who", 0, 0))), notice)
            self.assertEqual(office.known(1), ((1, 0), (1, 1), (1, 2)) if notice[0] == "answer" else office.fillings_left())
            for circle in range(3, 3 + len(circles)):
                self.assertGreaterEqual(office.ways(circle, "twin"), 2)

    def test_the_ties_of_what_a_circle_knows(self):
        office = Office(TWINS, (S,), ("bb", "d"), readers=("ann", "ben"))
        self.assertEqual(office.ties(0), ((0,), (1,)))
        office.act(("hand", "ann", SUM, 0, FOLDED))
        self.assertEqual((office.ties(0), office.ties(1)), (((0, 1),), ((0,), (1,))))

    def test_the_watch_of_two_readers(self):
        book = (("who", 2, (("a",), ("b", "b"), ("c",) * 3, ("d",) * 4), ("",)),)
        record = record_of("@table{@row{@cell{@hole{who}} @cell{x}} @row{@cell{aaaa}}}")
        office = Office(book, (S,), ("bb",), readers=("ann", "ben"), circles=(("ann", "ben"),))
        notice = office.act(("hand", "ann", record, 0, (("even", 2), ("all",))))
        self.assertEqual(notice, ("copy", 1, ((" " * 11 + "1", " " * 12, "##   x".ljust(12), "aaaa".ljust(12), " " * 12),)))
        self.assertEqual([office.known(circle) for circle in range(3)], [((0,), (1,)), office.fillings_left(), ((0,), (1,))])
        scene, views, plan, paper = office.plan_of(("ask", "ben", ("width", "who", 0, 0)))
        self.assertEqual(scene[0], ((0,), (1,), (2,), (3,)))
        self.assertEqual(scene[2], (((0, 0, 0, 0), (((0, 2),),)), ((0, 0, 1, 1), (((0, 2),), ((0, 2),)))))
        self.assertEqual((views, plan), (((1, None), (2, None), (3, None), (4, None)), (1, 1, 1, 1)))
        self.assertEqual(paper, ((0, 0, 0),))

    def test_tell(self):
        office = self.office(readers=("ann", "ben", "cid"), circles=(("ann", "ben"), ("ben", "cid")))
        self.assertEqual(office.act(("tell", "ann", "who")), ("told", "who", "bob"))
        self.assertEqual(office.would("ann", (0,)), (("told", "who", "an"),))
        self.assertEqual([office.known(circle) for circle in range(5)],
                         [((1,),), ((0,), (1,)), ((0,), (1,)), ((1,),), ((0,), (1,))])
        # It is open to the circles of this reader only.
        self.assertEqual([office.ways(circle, "who") for circle in range(5)], [1, 2, 2, 1, 2])
        self.assertEqual([office.many(circle) for circle in range(5)], [1, 2, 2, 1, 2])
        self.assertEqual(office.act(("tell", "cid", "who")), ("told", "who", "bob"))
        self.assertEqual([office.ways(circle, "who") for circle in range(5)], [1, 2, 1, 1, 1])

    def test_tell_one_of_several_stems_of_a_shape(self):
        office = self.office("boc", book=(FOUR,))
        self.assertEqual(office.act(("tell", "ann", "name")), ("told", "name", "boc"))
        self.assertEqual([office.would("ann", (shape,)) for shape in range(3)],
                         [(("told", "name", "d"),), (("told", "name", "ab"),), (("told", "name", "boc"),)])
        self.assertEqual((office.known(0), office.many(0), office.possible(0, 0), office.ways(0, "name")),
                         (((2,),), 1, ("boc",), 1))
        # The first stem that news has left.
        office = self.office("boc", book=(FOUR,))
        office.act(("news", "name", "ab"))
        office.act(("news", "name", "bob"))
        self.assertEqual(office.act(("tell", "ann", "name")), ("told", "name", "boc"))
        self.assertEqual(office.would("ann", (1,)), (("told", "name", "an"),))

    def test_tell_refused(self):
        office = Office(TWINS, (S,), ("bb", "d"), readers=("ann", "ben"))
        office.act(("hand", "ann", SUM, 0, FOLDED))
        known = office.known(0)
        # If who has two units, there is one way left for the twin; so it is refused, whatever the truth is.
        self.assertEqual(office.act(("tell", "ann", "who")), ("refused",))
        self.assertEqual((office.known(0), office.ways(0, "who"), office.ways(0, "twin")), (known, 2, 2))
        self.assertEqual([office.would("ann", filling)[-1] for filling in known], [("refused",)] * 3)
        self.assertEqual(office.act(("tell", "ben", "who")), ("told", "who", "bb"))
        self.assertEqual((office.ways(1, "who"), office.ways(1, "twin")), (1, 3))
        # Of who, one way is enough.
        self.assertEqual(office.act(("tell", "ann", "twin")), ("told", "twin", "d"))
        self.assertEqual((office.known(0), office.ways(0, "who"), office.ways(0, "twin")), (((0, 0), (1, 0)), 2, 1))

    def test_an_answer_behind_a_tell(self):
        book = (("who", 2, (("a",), ("b", "b")), ("",)), ("twin", 2, (("c",), ("d", "d")), ("",)))
        office = self.office(("a", "dd"), readers=("ann", "ben"), book=book)
        self.assertEqual(office.act(("ask", "ann", ("width", "who", 0, 0))), ("refused",))
        self.assertEqual(office.act(("tell", "ann", "who")), ("told", "who", "a"))
        # Then who is open to ann, and no longer guarded.
        self.assertEqual(office.act(("ask", "ann", ("width", "who", 0, 0))), ("answer", 1))
        self.assertEqual(office.act(("ask", "ben", ("width", "who", 0, 0))), ("refused",))
        self.assertEqual(office.act(("ask", "ann", ("width", "twin", 0, 0))), ("refused",))

    def test_ask_the_number_of_pages(self):
        record = record_of("@par{a} @par{b} @par{aaaa @hole{who} bbbb}")
        # With an, the last paragraph has one row, with bob it has two.
        office = self.office(book=(("who", 1) + WHO[2:],))
        self.assertEqual(office.act(("ask", "ann", ("pages", record, 0))), ("answer", 2))
        self.assertEqual(office.known(0), ((0,), (1,)))
        office = self.office()
        late = record_of("@par{aaaa @hole{who} bbbb} @par{c}")
        self.assertEqual(office.act(("ask", "ann", ("pages", late, 0))), ("refused",))
        self.assertEqual(office.known(0), ((0,), (1,)))
        office = self.office(book=(("who", 1) + WHO[2:],))
        self.assertEqual(office.act(("ask", "ann", ("pages", late, 0))), ("answer", 2))
        self.assertEqual((office.known(0), office.would("ann", (0,))), (((1,),), (("answer", 1),)))

    def test_ask_the_number_of_pages_of_a_record_without_pages(self):
        office = self.office()
        for record in ((), record_of("@contents"), record_of("@label{a} @index")):
            self.assertEqual(office.act(("ask", "ann", ("pages", record, 0))), ("answer", 0))
        self.assertEqual(office.act(("ask", "ann", ("page", record_of("@label{a} @index"), 0, "a"))), ("answer", 0))

    def test_ask_the_page_of_a_label(self):
        office = self.office()
        record = record_of("@label{a} @label{b} @par{x} @par{y} @label{c} @figure{1}{} @label{d} @contents @par{z} @label{e} @index")
        # Page 1 has both paragraphs; then comes the figure with the third one.
        for label, page in (("a", 1), ("b", 1), ("c", 2), ("d", 2), ("e", 2)):
            self.assertEqual(office.act(("ask", "ann", ("page", record, 0, label))), ("answer", page))
        hidden = record_of("@par{x} @par{aaaa @hole{who} bbbb} @label{end} @par{y}")
        self.assertEqual(office.act(("ask", "ann", ("page", hidden, 0, "end"))), ("answer", 2))
        hidden = record_of("@par{aaaa @hole{who} bbbb} @label{end} @par{y}")
        self.assertEqual(office.act(("ask", "ann", ("page", hidden, 0, "end"))), ("refused",))
        office = self.office(book=(("who", 1) + WHO[2:],))
        self.assertEqual(office.act(("ask", "ann", ("page", hidden, 0, "end"))), ("answer", 2))
        self.assertEqual(office.would("ann", (0,)), (("answer", 1),))

    def test_ask_the_page_of_a_label_whose_number_was_blanked(self):
        style = (8, 3, 1, (("1", 3), ("?", 3)), (), (), (0, 0, 0, 0, 0))
        record = record_of("@par{@page{x} @page{x} @page{x}} @label{x} @par{aa}")
        office = Office((WHO,), (S, style), ("an",), readers=("ann",))
        self.assertEqual(office.act(("ask", "ann", ("page", record, 1, "x"))), ("answer", 2))
        self.assertEqual(office.act(("ask", "ann", ("page", record, 0, "x"))), ("answer", 1))

    def test_ask_the_width_of_a_word(self):
        wide = (12, 3, 1, (("b", 2),), (), (), (0, 0, 0, 0, 0))
        book = (("name", 1) + FOUR[2:],)
        office = self.office("boc", book=book, styles=(S, wide))
        for ending, which, width in ((0, 0, 3), (1, 0, 4), (0, 1, 4), (1, 1, 5)):
            self.assertEqual(self.office("boc", book=book, styles=(S, wide)).act(("ask", "ann", ("width", "name", ending, which))),
                             ("answer", width))
        office.act(("ask", "ann", ("width", "name", 0, 1)))
        self.assertEqual(office.ways(0, "name"), 1)
        office = self.office("boc", book=(FOUR,), styles=(S, wide))
        self.assertEqual(office.act(("ask", "ann", ("width", "name", 0, 0))), ("refused",))

    def test_news(self):
        office = self.office("boc", book=(FOUR,))
        self.assertIsNone(office.act(("news", "name", "ab")))
        self.assertEqual((office.counts_left(), office.fillings_left()), (((1, 1, 2),), ((0,), (1,), (2,))))
        self.assertEqual([office.possible(0, k) for k in range(office.many(0))], [("d",), ("an",), ("bob",), ("boc",)])
        self.assertIsNone(office.act(("news", "name", "an")))
        self.assertEqual((office.counts_left(), office.fillings_left()), (((1, 0, 2),), ((0,), (2,))))
        self.assertEqual((office.known(0), office.ways(0, "name")), (((0,), (2,)), 3))
        office.act(("news", "name", "bob"))
        office.act(("news", "name", "d"))
        self.assertEqual((office.counts_left(), office.fillings_left(), office.ways(0, "name")), (((0, 0, 1),), ((2,),), 1))
        self.assertEqual((office.notices("ann"), office.many(0), office.possible(0, 0)), ((), 1, ("boc",)))
        # Who knows all is told all.
        self.assertEqual(office.act(("hand", "ann", NAME, 0, ())), ("copy", 0, page_with("### x")))

    def test_news_among_the_stems_of_a_great_stock(self):
        letters = "abcdefghijklmnopqrstuvwxyz"
        office = self.office("cccccccc", book=(("who", 5, ((letters,) * 8,), ("",)),))
        self.assertEqual(office.many(0), 26 ** 8)
        for stem in ("aaaaaaab", "aaaaaaaa", "aaaaaaad", "zzzzzzzz"):
            office.act(("news", "who", stem))
        self.assertEqual(office.counts_left(), ((26 ** 8 - 4,),))
        self.assertEqual([office.possible(0, k) for k in (0, 1, 26 ** 8 - 5)], [("aaaaaaac",), ("aaaaaaae",), ("zzzzzzzy",)])

    def test_copies_behind_news(self):
        # When one shape is left, its width tells nothing.
        office = self.office()
        office.act(("hand", "ann", HERE, 0, ROWS))
        office.act(("news", "who", "an"))
        self.assertEqual(office.act(("hand", "ann", HERE, 0, ROWS)), ("copy", 0, page_with("### x")))
        self.assertEqual(office.notices("ann"), (("copy", 1, COVERED), ("copy", 0, page_with("### x"))))

    def test_pick(self):
        office = self.office()
        rows = (("rows",),), (("wide", 1), ("even", 5)), (("all",),)
        # By the second one, five cells are covered for both words.
        self.assertEqual(office.act(("pick", "ann", HERE, 0, rows)), ("picked", 1, 2, page_with("#####")))
        self.assertEqual(office.would("ann", (0,)), (("picked", 1, 2, page_with("#####")),))
        office = self.office(book=(("who", 2, (("a",), ("b", "b")), ("",)),), stem="bb")
        self.assertEqual(office.act(("pick", "ann", record_of("@table{@row{@cell{@hole{who}}} @row{@cell{xx}}}"), 0,
                                     ((("all",),), (("rows",),), (("even", 2),)))),
                         ("picked", 2, 1, ((" " * 11 + "1", " " * 12, "##".ljust(12), "xx".ljust(12), " " * 12),)))

    def test_picks_that_show_equally_much(self):
        self.assertEqual(self.office().act(("pick", "ann", HERE, 0, (ROWS,) * 4)), ("picked", 0, 1, COVERED))
        # Two ways to cover one row show equally much: the first one is taken.
        for rows, row in (((ROWS, (("wide", 20),)), 0), (((("wide", 20),), ROWS), 0), (((("all",),), (("wide", 20),), ROWS), 1),
                          (((), ROWS), 1), ((ROWS, ()), 0), (((), ()), 0), (((),), 0)):
            self.assertEqual(self.office().act(("pick", "ann", HERE, 0, rows))[1], row)

    def test_what_is_seen_counts_with_the_stems(self):
        # The first row shows the many stems of one shape, the second one those of the other shape.
        book = (("who", 1, (("a", "abcdefgh"), ("x", "x", "x")), ("",)),)
        record = record_of("@par{@hole{who}}")
        office = self.office("xxx", book=book)
        scene, views, plan, paper = office.plan_of(("pick", "ann", record, 0, ((("all",),), ())))
        self.assertEqual((plan, paper), ((0, 0), ()))
        self.assertEqual(office.act(("pick", "ann", record, 0, ((("all",),), ())))[:3], ("picked", 0, 0))

    def test_the_plan_of_a_deed(self):
        office = self.office()
        deed = ("hand", "ann", HERE, 0, ROWS)
        scene, views, plan, paper = office.plan_of(deed)
        self.assertEqual(scene, (((0,), (1,)), ((1, 1),), (((0, 0), (((0, 2),),)),)))
        self.assertEqual(views, tuple((look_with(HERE, (WHO,), S, (stem,)), COVERED, ()) for stem in ("an", "bob")))
        self.assertEqual((plan, paper), ((1, 1), ((0, 0, 0),)))
        self.assertEqual((finest(scene, views), reasons_of(scene, views)), (plan, paper))
        self.assertEqual(office.deeds, ())
        # Told secrets stand in no guards.
        self.assertEqual(office.plan_of(("tell", "ann", "who"))[0][2], (((0, 0), ((),)),))
        self.assertEqual(office.plan_of(("tell", "ann", "who"))[1:], (((0, None), (1, None)), (0, 0), ()))
        picked = office.plan_of(("pick", "ann", HERE, 0, ((), ROWS)))
        self.assertEqual(picked, (scene, views, plan, paper))

    def test_unknown_names(self):
        office = self.office()
        for call in (lambda: office.ways(0, "ann"), lambda: office.ways(0, "whom"), lambda: office.notices("who"),
                     lambda: office.would("ben", (0,)), lambda: office.plan_of(("tell", "ben", "who"))):
            self.assertRaises(Unknown, call)

    def test_what_an_office_is_made_of(self):
        letters = "abcdefghijklmnopqrstuvwxyz"
        styles = tuple((12, 3, 1, tuple((sign, 1 + at // 3 ** place % 3) for at, sign in enumerate(letters) if at // 3 ** place % 3),
                        (), (), (0, 0, 0, 0, 0)) for place in range(4))
        shapes = (("who", 1, ((letters, letters, letters),), ("",)),)
        fillings = tuple((name, 1, tuple(("a",) * (at + 1) for at in range(5)), ("",)) for name in "xyz")
        two = (WHO, ("when", 1, (("1",),), ("",)))
        twice, unknown = ("ann", "ben", "ann", "ben"), (("ann",), ("ben", "cid"), ("dan",))
        for book, told, stems, readers, circles, error, worth in (
                (shapes, styles, ("x",), twice, unknown, TooMany, "shapes"),
                (fillings, (S,), ("x",) * 3, twice, unknown, TooMany, "fillings"),
                (two, (S,), ("x", "y"), twice, unknown, NoStem, "x"), (two, (S,), ("an", "y"), twice, unknown, NoStem, "y"),
                (two, (S,), ("an", "1"), twice, unknown, Twice, "ann"),
                (two, (S,), ("an", "1"), ("ben", "ann", "ann", "ben"), unknown, Twice, "ann"),
                (two, (S,), ("an", "1"), ("ann", "ben"), unknown, Unknown, "cid"),
                (two, (S,), ("an", "1"), ("ann", "ben"), (("dan", "cid"), ("eve",)), Unknown, "dan"),
                (two, (S,), ("an", "1"), ("ann", "ben"), (("ann", "ben"), ("eve",)), Unknown, "eve")):
            with self.assertRaises(error) as caught:
                Office(book, told, stems, readers=readers, circles=circles)
            self.assertEqual(next(iter(vars(caught.exception).values())), worth)

    def test_results_belong_to_the_caller(self):
        office = self.office()
        office.act(("hand", "ann", HERE, 0, ROWS))
        for told in (office.known(0), office.notices("ann"), office.would("ann", (0,)), office.deeds, office.counts_left(),
                     office.fillings_left(), office.ties(0), office.possible(0, 0), office.plan_of(("tell", "ann", "who"))):
            self.assertIsInstance(told, tuple)
            self.only_tuples(told)

    def only_tuples(self, told):
        if isinstance(told, tuple):
            for part in told:
                self.only_tuples(part)
        else:
            self.assertIn(type(told), (int, str, type(None)))


class DeedsTest(unittest.TestCase):
    DEEDS = (("hand", "ann", HERE, 0, ROWS), ("ask", "ben", ("width", "who", 0, 0)), ("tell", "ann", "who"),
             ("news", "who", "an"), ("hand", "ben", HERE, 0, ()))
    WRONG = ("tell", "cid", "who")

    def office(self):
        return Office((WHO,), (S,), ("bob",), readers=("ann", "ben"), circles=(("ann", "ben"),))

    def state(self, office):
        return (office.deeds, office.fillings_left(), office.counts_left(),
                tuple((office.known(circle), office.ways(circle, "who"), office.many(circle)) for circle in range(3)),
                tuple((office.notices(name), tuple(office.would(name, filling) for filling in office.fillings_left()))
                      for name in ("ann", "ben")))

    def done(self, deeds):
        office = self.office()
        for deed in deeds:
            office.act(deed)
        return office

    def notices(self, deeds=DEEDS):
        office = self.office()
        return tuple(office.act(deed) for deed in deeds)

    def test_deeds_one_after_the_other(self):
        office = self.office()
        for many, deed in enumerate(self.DEEDS):
            self.assertEqual(office.deeds, self.DEEDS[:many])
            office.act(deed)
        self.assertEqual(office.deeds, self.DEEDS)
        self.assertEqual(self.notices()[1:], (("refused",), ("told", "who", "bob"), None, ("copy", 0, page_with("### x"))))

    def test_after_an_error_nothing_has_changed(self):
        for many in range(len(self.DEEDS) + 1):
            office = self.done(self.DEEDS[:many])
            state = self.state(office)
            for deed in (self.WRONG, ("news", "who", "bob"), ("news", "who", "x"), ("hand", "ann", HERE, 0, (("none",),)),
                         ("ask", "ann", ("width", "who", 3, 0)), ("hand", "ann", record_of("@figure{6}{}"), 0, ())):
                self.assertRaises(PagesError, office.act, deed)
                self.assertRaises(PagesError, office.tried, self.DEEDS[many:] + (deed,))
                self.assertRaises(PagesError, office.again, self.DEEDS + (deed,))
                self.assertEqual(self.state(office), state)

    def test_acts(self):
        office = self.office()
        self.assertEqual(tuple(office.acts(self.DEEDS)), self.notices())
        self.assertEqual(self.state(office), self.state(self.done(self.DEEDS)))
        self.assertEqual(list(self.office().acts(())), [])

    def test_acts_do_each_deed_when_it_is_asked_for(self):
        office = self.office()
        row = office.acts(self.DEEDS)
        self.assertEqual(office.deeds, ())
        for many, notice in enumerate(self.notices()):
            self.assertEqual(office.deeds, self.DEEDS[:many])
            self.assertEqual(next(row), notice)
            self.assertEqual(office.deeds, self.DEEDS[:many + 1])
        self.assertEqual(list(row), [])

    def test_acts_stopped_amid_their_deeds(self):
        office = self.office()
        for many, _ in enumerate(office.acts(self.DEEDS), start=1):
            if many == 2:
                break
        self.assertEqual(self.state(office), self.state(self.done(self.DEEDS[:2])))

    def test_acts_with_an_error(self):
        office = self.office()
        row = office.acts(self.DEEDS[:2] + (self.WRONG,) + self.DEEDS[2:])
        self.assertEqual((next(row), next(row)), self.notices()[:2])
        self.assertRaises(Unknown, next, row)
        self.assertEqual(self.state(office), self.state(self.done(self.DEEDS[:2])))

    def test_tried(self):
        for many in range(len(self.DEEDS) + 1):
            office = self.done(self.DEEDS[:many])
            state = self.state(office)
            self.assertEqual(office.tried(self.DEEDS[many:]), self.notices()[many:])
            self.assertEqual(self.state(office), state)
        self.assertEqual(self.office().tried(()), ())

    def test_trial(self):
        office = self.done(self.DEEDS[:1])
        state = self.state(office)
        with office.trial() as held:
            self.assertIs(held, office)
            self.assertEqual(tuple(held.acts(self.DEEDS[1:])), self.notices()[1:])
            self.assertEqual(office.deeds, self.DEEDS)
        self.assertEqual(self.state(office), state)

    def test_trials_within_trials(self):
        office = self.done(self.DEEDS[:1])
        states = [self.state(office)]
        with office.trial():
            office.act(self.DEEDS[1])
            states.append(self.state(office))
            with office.trial() as held:
                held.act(self.DEEDS[2])
                with held.trial():
                    held.deeds = ()
                    self.assertEqual(office.deeds, ())
                self.assertEqual(office.deeds, self.DEEDS[:3])
            self.assertEqual(self.state(office), states[1])
            office.act(self.DEEDS[2])
        self.assertEqual(self.state(office), states[0])

    def test_one_trial_that_is_entered_several_times(self):
        office = self.office()
        trial = office.trial()
        office.act(self.DEEDS[0])
        with trial:
            office.act(self.DEEDS[1])
            with trial:
                office.act(self.DEEDS[2])
            self.assertEqual(office.deeds, self.DEEDS[:2])
        self.assertEqual(office.deeds, self.DEEDS[:1])
        with trial:
            office.act(self.DEEDS[1])
        self.assertEqual(office.deeds, self.DEEDS[:1])

    def test_a_trial_that_an_error_leaves(self):
        office = self.done(self.DEEDS[:2])
        state = self.state(office)
        for error, act in ((Unknown, lambda: office.act(self.WRONG)), (ZeroDivisionError, lambda: 1 // 0)):
            with self.assertRaises(error):
                with office.trial():
                    office.act(self.DEEDS[2])
                    with office.trial():
                        office.act(self.DEEDS[3])
                        act()
            self.assertEqual(self.state(office), state)

    def test_deeds_that_are_assigned(self):
        office = self.done(self.DEEDS[2:])
        office.deeds = self.DEEDS[:3]
        self.assertEqual(self.state(office), self.state(self.done(self.DEEDS[:3])))
        office.deeds = ()
        self.assertEqual(self.state(office), self.state(self.office()))
        state = self.state(office)
        with self.assertRaises(Unknown):
            office.deeds = self.DEEDS + (self.WRONG,)
        self.assertEqual(self.state(office), state)

    def test_again(self):
        office = self.done(self.DEEDS)
        self.assertIsNone(office.again(self.DEEDS[1:3]))
        self.assertEqual(self.state(office), self.state(self.done(self.DEEDS[1:3])))
        # News of a stem that was ruled out can be done again from the beginning.
        self.assertIsNone(office.again(office.deeds + (("news", "who", "an"),)))
        state = self.state(office)
        self.assertRaises(NoStem, office.again, office.deeds + (("news", "who", "an"),))
        self.assertRaises(BadStep, office.again, (("hand", "ann", HERE, 0, ((),)),))
        self.assertEqual(self.state(office), state)


if __name__ == "__main__":
    unittest.main()
