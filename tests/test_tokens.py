import string
import unittest

from hushedpages.tokens import is_name, is_word, tokens_of

WORD_SIGNS = ".,:;!?'()+=<>*/"
WORD_CHARACTERS = string.ascii_lowercase + string.digits + WORD_SIGNS
PRINTABLE = "".join(chr(k) for k in range(32, 127))


class TokensTest(unittest.TestCase):
    def test_nothing(self):
        for text in ("", " ", "\n", "  \n \n\n "):
            self.assertEqual(tokens_of(text), ())

    def test_tokens_with_blanks_and_line_feeds_between(self):
        self.assertEqual(tokens_of(" @par { ab\n\n@hole {who }\n}\n"), ("@par", "{", "ab", "@hole", "{", "who", "}", "}"))

    def test_tokens_that_touch(self):
        self.assertEqual(tokens_of("@par{ab@hole{who}{1}cd}ef"),
                         ("@par", "{", "ab", "@hole", "{", "who", "}", "{", "1", "}", "cd", "}", "ef"))
        self.assertEqual(tokens_of("@a@b@@c{{}}"), ("@a", "@b", "@", "@c", "{", "{", "}", "}"))

    def test_a_call_ends_at_the_first_character_that_is_no_letter(self):
        self.assertEqual(tokens_of("@ab1"), ("@ab", "1"))
        self.assertEqual(tokens_of("@ab,cd"), ("@ab", ",cd"))
        self.assertEqual(tokens_of("@abCd"), ("@ab", "C", "d"))
        self.assertEqual(tokens_of("@1a"), ("@", "1a"))
        self.assertEqual(tokens_of("@ ab"), ("@", "ab"))

    def test_at_sign_with_0_1_8_and_9_letters(self):
        self.assertEqual(tokens_of("@ @a @abcdefgh @abcdefghi"), ("@", "@a", "@abcdefgh", "@abcdefghi"))

    def test_runs_are_never_cut(self):
        self.assertEqual(tokens_of("a" * 16 + " " + "b" * 17 + " " + "c" * 500), ("a" * 16, "b" * 17, "c" * 500))
        self.assertEqual(tokens_of("@" + "d" * 500), ("@" + "d" * 500,))

    def test_all_word_characters_make_one_run(self):
        self.assertEqual(tokens_of(WORD_CHARACTERS), (WORD_CHARACTERS,))

    def test_each_other_character_is_a_token(self):
        for sign in PRINTABLE:
            with self.subTest(sign):
                if sign in WORD_CHARACTERS:
                    self.assertEqual(tokens_of(sign + sign), (sign + sign,))
                elif sign == " ":
                    self.assertEqual(tokens_of(sign + sign), ())
                else:
                    self.assertEqual(tokens_of(sign + sign), (sign, sign))
                    self.assertEqual(tokens_of("9" + sign + "9"), ("9", sign, "9"))

    def test_the_answer_is_a_tuple_of_strings(self):
        told = tokens_of("@a{b-}")
        self.assertIs(type(told), tuple)
        self.assertTrue(all(type(token) is str for token in told))

    def test_words(self):
        for sign in PRINTABLE + "\n":
            self.assertEqual(is_word(sign), sign in WORD_CHARACTERS, sign)
            self.assertEqual(is_word("a" + sign + "a"), sign in WORD_CHARACTERS, sign)
        self.assertFalse(is_word(""))
        self.assertTrue(is_word("a" * 16))
        self.assertFalse(is_word("a" * 17))

    def test_names(self):
        for sign in PRINTABLE + "\n":
            self.assertEqual(is_name(sign), sign in string.ascii_lowercase, sign)
            self.assertEqual(is_name("a" + sign), sign in string.ascii_lowercase, sign)
        self.assertFalse(is_name(""))
        self.assertTrue(is_name("a" * 8))
        self.assertFalse(is_name("a" * 9))


if __name__ == "__main__":
    unittest.main()
