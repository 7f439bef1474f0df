"""The faults of deeds, and their order [43]."""

import unittest

from hushedpages.blocks import record_of
from hushedpages.errors import BadEnding, BadStep, NoStem, TooMany, TooTall, TooWide, Unknown, Untrue
from hushedpages.office import Office

S = (12, 3, 1, (), (), (), (0, 0, 0, 0, 0))
# The words of the second shape do not fit into a row; those of the third one neither.
WHO = ("who", 1, (("a", "n"), ("b",) * 7, ("c",) * 8), ("", "aaaaaa"))
WHEN = ("when", 1, (("1", "23"),), ("", "th"))
BOOK = (WHO, WHEN)

# What can be wrong with a record, as text, in the order told; the first one for each filling, the other ones for some.
RIGHT = "@par{x @hole{when}}"
UNKNOWN = ("@par{@hole{whom}}", Unknown, {"name": "whom"})
ENDING = ("@par{@hole{when}{2}}", BadEnding, {"name": "when"})
WIDE = ("@par{aaaaaaaaaaaaa}", TooWide, {"part": "word"})
TALL = ("@figure{3}{} @figure{4}{}", TooTall, {})
STEPS = (((("none",),), BadStep, {"at": 0}), ((("all",), ("wide", 0)), BadStep, {"at": 1}), ((("all",),) * 7, TooMany, {"part": "steps"}))


class FaultsTest(unittest.TestCase):
    def setUp(self):
        self.office = Office(BOOK, (S,), ("an", "12"), readers=("ann", "ben"))

    def refused(self, deed, error, worth):
        calls = [lambda: self.office.act(deed), lambda: self.office.tried((deed,)), lambda: self.office.again((deed,)),
                 lambda: list(self.office.acts((deed,)))]
        if deed[0] != "news":
            calls.append(lambda: self.office.plan_of(deed))
        for call in calls:
            with self.assertRaises(error, msg=deed) as caught:
                call()
            self.assertEqual(vars(caught.exception), worth, deed)
            self.assertEqual(self.office.deeds, ())

    def test_records_that_cannot_be_handed(self):
        faults = (UNKNOWN, ENDING, WIDE, TALL)
        for text, error, worth in faults:
            for record in (record_of(text), record_of(RIGHT + text)):
                self.refused(("hand", "ann", record, 0, ()), error, worth)
                self.refused(("pick", "ann", record, 0, ((), (("all",),))), error, worth)
                self.refused(("ask", "ann", ("pages", record, 0)), error, worth)
                self.refused(("ask", "ann", ("page", (("label", "l"),) + record, 0, "l")), error, worth)

    def test_an_unknown_reader_goes_ahead_of_all(self):
        unknown = {"name": "cid"}
        for text, _, _ in (UNKNOWN, ENDING, WIDE, TALL, (RIGHT, None, None)):
            record = record_of(text)
            self.refused(("hand", "cid", record, 0, (("none",),)), Unknown, unknown)
            self.refused(("pick", "cid", record, 0, ((("none",),),)), Unknown, unknown)
            self.refused(("ask", "cid", ("pages", record, 0)), Unknown, unknown)
            self.refused(("ask", "cid", ("page", record, 0, "l")), Unknown, unknown)
        self.refused(("tell", "cid", "who"), Unknown, unknown)
        self.refused(("tell", "cid", "whom"), Unknown, unknown)
        self.refused(("tell", "who", "ann"), Unknown, {"name": "who"})
        self.refused(("ask", "cid", ("width", "whom", 2, 0)), Unknown, unknown)
        self.refused(("ask", "cid", ("width", "who", 2, 0)), Unknown, unknown)

    def test_unknown_secrets(self):
        self.refused(("tell", "ann", "whom"), Unknown, {"name": "whom"})
        self.refused(("tell", "ann", "ann"), Unknown, {"name": "ann"})
        self.refused(("ask", "ann", ("width", "whom", 2, 0)), Unknown, {"name": "whom"})
        self.refused(("ask", "ann", ("width", "who", 2, 0)), BadEnding, {"name": "who"})
        self.refused(("ask", "ann", ("width", "when", 2, 0)), BadEnding, {"name": "when"})
        self.refused(("news", "whom", "no"), Unknown, {"name": "whom"})
        self.refused(("news", "ann", "12"), Unknown, {"name": "ann"})

    def test_the_faults_of_a_record_go_ahead_of_those_of_steps(self):
        for text, error, worth in (UNKNOWN, ENDING):
            for other, _, _ in (WIDE, TALL, UNKNOWN, ENDING):
                record = record_of(text + other)
                for steps, _, _ in STEPS:
                    self.refused(("hand", "ann", record, 0, steps), error, worth)
                    self.refused(("pick", "ann", record, 0, (steps, ())), error, worth)
                self.refused(("ask", "ann", ("page", record, 0, "nowhere")), error, worth)

    def test_the_faults_of_steps_go_ahead_of_those_of_setting(self):
        for text, _, _ in (WIDE, TALL):
            for steps, error, worth in STEPS:
                self.refused(("hand", "ann", record_of(text), 0, steps), error, worth)
                for others, _, _ in STEPS:
                    self.refused(("pick", "ann", record_of(text), 0, (steps, others)), error, worth)
                    self.refused(("pick", "ann", record_of(text), 0, ((), steps, others)), error, worth)

    def test_a_label_that_there_is_not_goes_ahead_of_setting(self):
        for text in (RIGHT, WIDE[0], TALL[0], "@label{k} " + TALL[0]):
            self.refused(("ask", "ann", ("page", record_of(text), 0, "l")), Unknown, {"name": "l"})

    def test_the_first_filling_that_cannot_be_set(self):
        # First stems an, bbbbbbb and cccccccc: with its ending, an fits only in a row; the table is too wide for the others.
        table = record_of("@table{@row{@cell{aaaaa} @cell{@hole{who}}}}")
        self.refused(("hand", "ann", table, 0, ()), TooWide, {"part": "table"})
        # The first filling is too tall, all later ones are too wide.
        tall = record_of("@figure{3}{} @par{@hole{who}{1}} @figure{5}{}")
        self.refused(("hand", "ann", tall, 0, ()), TooTall, {})
        self.refused(("ask", "ann", ("pages", tall, 0)), TooTall, {})
        # The first one can be set, the second one is too wide.
        self.refused(("hand", "ann", record_of("@par{@hole{who}{1}}"), 0, ()), TooWide, {"part": "word"})
        self.refused(("ask", "ann", ("pages", record_of("@par{@hole{who}{1}}"), 0)), TooWide, {"part": "word"})

    def test_fillings_that_have_left_are_not_set(self):
        long = record_of("@par{@hole{who}{1}}")
        deed = ("hand", "ann", long, 0, ())
        self.refused(deed, TooWide, {"part": "word"})
        self.office.act(("news", "who", "bbbbbbb"))
        with self.assertRaises(TooWide):
            self.office.act(deed)
        self.office.act(("news", "who", "cccccccc"))
        self.assertEqual(self.office.act(deed)[0], "copy")
        # Then the question for its width still speaks of the fillings that are left.
        self.assertEqual(self.office.fillings_left(), ((0, 0),))

    def test_first_stems_that_news_has_ruled_out(self):
        # Whether a record can be set is asked of the first stems; which one it is does not matter.
        office = Office((WHEN,), (S,), ("13",), readers=("ann",))
        office.act(("news", "when", "12"))
        self.assertEqual(office.act(("hand", "ann", record_of("@par{@hole{when}}"), 0, ()))[:2], ("copy", 0))

    def test_news(self):
        for stem in ("", "a", "bb", "bbbbbbbb", "12"):
            self.refused(("news", "who", stem), NoStem, {"stem": stem})
        self.refused(("news", "who", "an"), Untrue, {"stem": "an"})
        self.refused(("news", "when", "12"), Untrue, {"stem": "12"})
        self.office.act(("news", "when", "13"))
        with self.assertRaises(NoStem) as caught:
            self.office.act(("news", "when", "13"))
        self.assertEqual(caught.exception.stem, "13")
        with self.assertRaises(Untrue):
            self.office.act(("news", "when", "12"))

    def test_no_fault_hangs_on_the_truth_but_that_of_news(self):
        deeds = [("hand", "ann", record_of(text), 0, ()) for text, _, _ in (UNKNOWN, ENDING, WIDE, TALL)]
        deeds += [("hand", "ann", record_of(text), 0, ()) for text in ("@par{@hole{who}{1}}", "@par{@hole{who} @hole{who}}")]
        for deed in deeds:
            told = []
            for stems in (("an", "12"), ("bbbbbbb", "13"), ("cccccccc", "12")):
                try:
                    told.append(Office(BOOK, (S,), stems, readers=("ann",)).act(deed)[0])
                except ValueError as error:
                    told.append((error.__class__, vars(error)))
            self.assertEqual(told, told[:1] * 3)


if __name__ == "__main__":
    unittest.main()
