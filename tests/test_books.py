"""The faults of books, and those of records against books [13]."""

import unittest

from hushedpages.blocks import record_of
from hushedpages.books import check_book, check_record
from hushedpages.errors import BadEnding, BadSecret, TooLarge, Twice, Unknown

SIGNS = "0123456789abcdefghijklmnopqrstuvwxyz"
WORD_CHARACTERS = SIGNS + ".,:;!?'()+=<>*/"
RIGHT = ("who", 2, (("a", "n"), ("b", "o", "b")), ("",))
PARTS = ("name", "keep", "stock", "endings")
BENT = {"name": "who1", "keep": 0, "stock": (), "endings": ()}


def secret_with(part, worth, secret=RIGHT):
    return tuple(worth if name == part else old for name, old in zip(PARTS, secret))


class BooksTest(unittest.TestCase):
    def refused(self, book, error, *told):
        with self.assertRaises(error, msg=book) as caught:
            check_book(book)
        self.assertEqual(tuple(vars(caught.exception).values()), told, book)

    def bent(self, part, worth):
        self.refused((secret_with(part, worth),), BadSecret, 0, part)

    def taken(self, part, worth):
        self.assertIsNone(check_book((secret_with(part, worth),)), worth)

    def test_books_of_1_to_6_secrets(self):
        for many in range(1, 7):
            self.assertIsNone(check_book(tuple(secret_with("name", name) for name in "abcdef"[:many])))
        for book in ((), tuple(secret_with("name", name) for name in "abcdefg"), "abc", 3, "", 0):
            self.refused(book, TooLarge, "book")
        self.refused((RIGHT,) * 7, TooLarge, "book")
        self.refused((0,) * 7, TooLarge, "book")

    def test_secrets_are_tuples_of_four(self):
        for secret in ("who", "name", 0, (), RIGHT[:3], RIGHT + ((),), ("who", 2, (("a",),))):
            self.refused((secret,), BadSecret, 0, "secret")
        self.refused(RIGHT, BadSecret, 0, "secret")

    def test_names(self):
        for name in ("a", "abcdefgh", "hole", "par", "zz"):
            self.taken("name", name)
        for name in ("", "abcdefghi", "a1", "A", "a b", "a.", "-", 0, 1, (), ("a",)):
            self.bent("name", name)

    def test_keeps(self):
        for keep in (1, 2, 999999999, 1000000000):
            self.taken("keep", keep)
        for keep in (0, -1, 1000000001, 10 ** 30, "1", (), (1,)):
            self.bent("keep", keep)

    def test_stocks_of_1_to_8_patterns(self):
        patterns = tuple((sign,) for sign in "abcdefghi")
        for many in range(1, 9):
            self.taken("stock", patterns[:many])
        for stock in ((), patterns, "a", "ab", 1, (1,), ("a",), ("ab", "cd")):
            self.bent("stock", stock)

    def test_patterns_of_1_to_8_slots(self):
        for many in range(1, 9):
            self.taken("stock", ((SIGNS,) * many,))
        for pattern in ((), (SIGNS,) * 9, "a", 0):
            self.bent("stock", (pattern,))
            self.bent("stock", (("b",), pattern))
            self.bent("stock", (pattern, ("b",)))

    def test_slots(self):
        for slot in ("a", "0", "09", "9a", "az", SIGNS):
            self.taken("stock", ((slot,),))
            self.taken("stock", (("m", slot, "m"),))
        for slot in ("", "aa", "ba", "a0", "abb", "abdc", "A", "a.", ".", "a-", " a", "_", SIGNS + "z", 0, (), ("a",)):
            self.bent("stock", ((slot,),))
            self.bent("stock", (("m", slot),))
            self.bent("stock", (("n",), ("m", slot, "m")))

    def test_no_stem_belongs_to_two_patterns(self):
        for stock in ((("a",), ("a", "b")), (("ab", "ab"), ("ab", "cd")), (("ab", "ab"), ("cd", "ab")),
                      (("ac", "b", "x"), ("bd", "b", "x")), (("a",), ("b",), ("c",))):
            self.taken("stock", stock)
        for stock in ((("a",), ("a",)), (("abc",), ("cde",)), (("ab", "ab"), ("bc", "bc")), (("ab", "0"), ("xy", "0"), ("b", "0")),
                      (("a",), ("b",), ("b",)), (("b",), ("a",), ("b",)), ((SIGNS, SIGNS), ("a", "z"))):
            self.bent("stock", stock)

    def test_endings(self):
        for endings in (("",), ("", "s", "ed"), ("abcdefgh",), (".,:;!?'(", ")+=<>*/"), ("s", "")):
            self.taken("endings", endings)
        for sign in WORD_CHARACTERS:
            self.taken("endings", (sign,))
        for endings in ((), ("", "a", "b", "c"), ("abcdefghi",), ("", ""), ("a", "b", "a"), ("a", "a", "b"), ("_",), ("-",),
                        ("A",), (" ",), ("a b",), "", "abc", 0, (0,), ("a", ()), ((),), (("a",),)):
            self.bent("endings", endings)

    def test_the_first_part(self):
        for at, part in enumerate(PARTS):
            for later in PARTS[at + 1:]:
                secret = secret_with(part, BENT[part], secret_with(later, BENT[later]))
                self.refused((secret,), BadSecret, 0, part)

    def test_the_first_secret(self):
        good = tuple(secret_with("name", name) for name in "abcde")
        for at in range(6):
            for part in PARTS:
                bent = secret_with(part, BENT[part])
                self.refused(good[:at] + (bent,) + good[at:], BadSecret, at, part)
                if at < 5:
                    self.refused(good[:at] + (bent, 0) + good[at:4], BadSecret, at, part)
            self.refused(good[:at] + (0,) + good[at:], BadSecret, at, "secret")
        self.refused((secret_with("endings", ()), secret_with("name", "")), BadSecret, 0, "endings")

    def test_different_names(self):
        one, two = secret_with("name", "one"), secret_with("name", "two")
        self.refused((one, one), Twice, "one")
        self.refused((one, two, two, one), Twice, "two")
        self.refused((one, two, one, two), Twice, "one")
        self.refused((one, one, 0), BadSecret, 2, "secret")
        self.refused((two, two, one, one, secret_with("keep", 0)), BadSecret, 4, "keep")
        self.assertIsNone(check_book((one, two)))


class RecordsAgainstBooksTest(unittest.TestCase):
    book = (("a", 1, (("a",),), ("",)), ("b", 1, (("b",),), ("", "s")), ("c", 1, (("c",),), ("", "s", "t")))

    def refused(self, text, error, name):
        with self.assertRaises(error, msg=text) as caught:
            check_record(record_of(text), self.book)
        self.assertEqual(caught.exception.name, name, text)

    def taken(self, text):
        self.assertIsNone(check_record(record_of(text), self.book), text)

    def test_holes_of_the_book(self):
        self.assertIsNone(check_record((), self.book))
        self.taken("@par{x @key{y} @note{z}} @label{d} @show{@over{d}{d}} @figure{1}{d} @par{@page{d}} @contents")
        for name, most in (("a", 0), ("b", 1), ("c", 2)):
            for ending in range(3):
                text = f"@par{{x @hole{{{name}}}{{{ending}}}}}"
                if ending <= most:
                    self.taken(text)
                else:
                    self.refused(text, BadEnding, name)
            self.taken(f"@par{{@hole{{{name}}}}}")
        for ending in ("", "{0}", "{2}"):
            self.refused(f"@par{{@hole{{d}}{ending}}}", Unknown, "d")

    def test_holes_at_each_place(self):
        for text in ("@head{x H}", "@par{x H x}", "@par{@note{x H}}", "@list{@item{x} @item{H}}", "@list{@item{@note{H}}}",
                     "@table{@row{@cell{x} @cell{2}{H}} @row{@cell{}}}", "@table{@row{@cell{}} @row{@cell{H}}}",
                     "@show{x H}", "@show{@over{x}{H}}", "@show{@over{H}{x}}", "@show{@up{H}}", "@show{@low{H}}",
                     "@show{@fence{x @up{H}}}", "@show{@grid{@line{x}{H}}}", "@show{@grid{@line{x} @line{@fence{H}}}}",
                     "@figure{1}{H}", "@label{h} @par{H}", "@contents @index @par{x} @par{H}"):
            self.taken(text.replace("H", "@hole{b}{1}"))
            self.refused(text.replace("H", "@hole{d}{1}"), Unknown, "d")
            self.refused(text.replace("H", "@hole{b}{2}"), BadEnding, "b")

    def test_the_first_fault(self):
        # In each text P, Q and R, in this order, stand for holes; of two of them in turn there are faults.
        for text in ("@par{P x Q R}", "@head{P} @par{Q} @head{R}", "@par{P @note{Q} R}", "@par{@note{P Q} R}",
                     "@list{@item{P} @item{Q @note{R}}}", "@table{@row{@cell{P} @cell{Q}} @row{@cell{R}}}",
                     "@figure{1}{P} @table{@row{@cell{8}{Q}}} @figure{1}{R}", "@show{P @over{Q}{R}}", "@show{@over{P}{Q} R}",
                     "@show{@up{P} @low{Q} @fence{R}}", "@show{@grid{@line{P}{Q} @line{R}{x}}}",
                     "@show{@grid{@line{P}{@over{Q}{x}} @line{x}{x}} R}", "@show{@grid{@line{P} @line{Q} @line{R}}}"):
            for first, second in ("PQ", "PR", "QR"):
                for one, other in (("@hole{d}", "@hole{e}"), ("@hole{d}", "@hole{a}{1}"), ("@hole{a}{1}", "@hole{d}"),
                                   ("@hole{a}{1}", "@hole{b}{2}")):
                    whole = text.replace(first, one).replace(second, other)
                    for place in "PQR":
                        whole = whole.replace(place, "@hole{a}")
                    self.refused(whole, Unknown if one == "@hole{d}" else BadEnding, one[6])


if __name__ == "__main__":
    unittest.main()
