"""Tokens: points TK1 and TK2."""

import itertools
import unittest

from askedfor.errors import Malformed, Unbounded
from askedfor.tokens import tokenize

WORDS = (
    "ask bool effect else false fst fun handle if in int let not print rec return snd then true unit"
).split()
SIGNS = "=> -> == ( ) { } , : ; | = + - * <".split()
GOOD_CHARACTERS = "abcdefghijklmnopqrstuvwxyz0123456789 \n(){},:;|=+-*<"


class TokensCase(unittest.TestCase):
    def check_malformed(self, text, at):
        with self.subTest(text[:60]):
            with self.assertRaises(Malformed) as held:
                tokenize(text)
            self.assertEqual(held.exception.at, at)

    def check_plain(self, text, *pairs):
        """The kinds and values of the tokens, wherever they stand."""
        with self.subTest(text[:60]):
            self.assertEqual([token[:2] for token in tokenize(text)], list(pairs))


class TokensTest(TokensCase):
    def test_example(self):
        self.assertEqual(
            tokenize("ask tick(1)"),
            [
                ("word", "ask", 0),
                ("name", "tick", 4),
                ("sign", "(", 8),
                ("number", 1, 9),
                ("sign", ")", 10),
            ],
        )
        self.check_malformed("x 3y", 2)

    def test_the_kinds_of_values(self):
        tokens = tokenize("ask o 1;")
        self.assertIs(type(tokens), list)
        self.assertEqual([type(token) for token in tokens], [tuple] * 4)
        self.assertEqual([type(token[1]) for token in tokens], [str, str, int, str])
        self.assertEqual([type(token[2]) for token in tokens], [int] * 4)

    def test_empty(self):
        self.assertEqual(tokenize(""), [])
        self.assertEqual(tokenize(" "), [])
        self.assertEqual(tokenize(" \n\n "), [])

    def test_two_lists_share_nothing(self):
        first = tokenize("x y")
        first.append("more")
        self.assertEqual(tokenize("x y"), [("name", "x", 0), ("name", "y", 2)])

    def test_words(self):
        self.assertEqual(len(WORDS), 20)
        for word in WORDS:
            with self.subTest(word):
                self.assertEqual(tokenize(word), [("word", word, 0)])

    def test_names_that_nearly_are_words(self):
        for word in WORDS:
            for name in (word + "s", word + "_", word + "0", "q" + word, word[:-1] + "q"):
                with self.subTest(name):
                    self.assertEqual(tokenize(name), [("name", name, 0)])
        self.check_plain("i", ("name", "i"))
        self.check_plain("inin", ("name", "inin"))
        self.check_plain("letrec", ("name", "letrec"))

    def test_names(self):
        for name in ("a", "z", "a1", "a_", "x_1_y2", "a" * 20, "b_234567890123456789", "a__", "z9"):
            with self.subTest(name):
                self.assertEqual(tokenize(name), [("name", name, 0)])

    def test_each_character_of_a_name(self):
        for character in "abcdefghijklmnopqrstuvwxyz0123456789_":
            self.check_plain("q" + character, ("name", "q" + character))
        for character in "abcdefghijklmnopqrstuvwxyz":
            self.check_plain(character, ("name", character))

    def test_words_of_other_languages_are_names(self):
        for name in ("effects", "while", "def", "none", "string", "return_", "handler"):
            self.check_plain(name, ("name", name))

    def test_numbers(self):
        for number in (0, 1, 9, 10, 1000, 2147483646, 2147483647):
            with self.subTest(number):
                self.assertEqual(tokenize(str(number)), [("number", number, 0)])
        for digit in range(10):
            self.check_plain(f"1{digit}", ("number", 10 + digit))

    def test_numbers_beside_others(self):
        self.check_plain("0(0", ("number", 0), ("sign", "("), ("number", 0))
        self.check_plain("-1", ("sign", "-"), ("number", 1))
        self.check_plain("1-2", ("number", 1), ("sign", "-"), ("number", 2))
        self.check_plain("0 0", ("number", 0), ("number", 0))
        self.check_plain("12\n3", ("number", 12), ("number", 3))
        self.check_plain("x 1 y", ("name", "x"), ("number", 1), ("name", "y"))

    def test_signs(self):
        self.assertEqual(len(SIGNS), 16)
        for sign in SIGNS:
            with self.subTest(sign):
                self.assertEqual(tokenize(sign), [("sign", sign, 0)])
                self.assertEqual(
                    tokenize(f"x{sign}1"),
                    [("name", "x", 0), ("sign", sign, 1), ("number", 1, 1 + len(sign))],
                )

    def test_two_signs_side_by_side(self):
        for one, other in itertools.product(SIGNS, repeat=2):
            self.check_plain(f"{one} {other}", ("sign", one), ("sign", other))
            if len(one) == 2 or one + other[0] not in SIGNS:
                self.check_plain(one + other, ("sign", one), ("sign", other))

    def test_the_longest_sign(self):
        self.check_plain("=>", ("sign", "=>"))
        self.check_plain("==", ("sign", "=="))
        self.check_plain("->", ("sign", "->"))
        self.check_plain("= =", ("sign", "="), ("sign", "="))
        self.check_plain("===", ("sign", "=="), ("sign", "="))
        self.check_plain("====", ("sign", "=="), ("sign", "=="))
        self.check_plain("===>", ("sign", "=="), ("sign", "=>"))
        self.check_plain("=->", ("sign", "="), ("sign", "->"))
        self.check_plain("-->", ("sign", "-"), ("sign", "->"))
        self.check_plain("--", ("sign", "-"), ("sign", "-"))
        self.check_plain("-=", ("sign", "-"), ("sign", "="))
        self.check_plain("<-", ("sign", "<"), ("sign", "-"))
        self.check_plain("<==", ("sign", "<"), ("sign", "=="))
        self.check_malformed("==>", 2)
        self.check_malformed("= >", 2)
        self.check_malformed("- >", 2)

    def test_indexes(self):
        text = " fun x=>\n(x ,12)\n\n ==rest_1 "
        for kind, value, at in tokenize(text):
            with self.subTest(value):
                self.assertTrue(text[at:].startswith(str(value)))
        self.assertEqual([token[2] for token in tokenize(text)], [1, 5, 6, 9, 10, 12, 13, 15, 19, 21])


class SeparatorsTest(TokensCase):
    def test_spaces_and_newlines(self):
        expected = [("name", "x"), ("name", "y")]
        for between in (" ", "\n", "  ", "\n\n", " \n ", " " * 100):
            self.check_plain(f"x{between}y", *expected)
            self.check_plain(f"{between}x{between}y{between}", *expected)

    def test_none_are_needed_where_tokens_differ(self):
        self.check_plain(
            "x(1)+2",
            ("name", "x"), ("sign", "("), ("number", 1), ("sign", ")"), ("sign", "+"), ("number", 2),
        )

    def test_other_white_space_does_not_separate(self):
        for character in "\t\r\f\v":
            self.check_malformed(f"x{character}y", 1)

    def test_any_other_character(self):
        for code in range(128):
            character = chr(code)
            if character in GOOD_CHARACTERS:
                continue
            self.check_malformed(character, 0)
            self.check_malformed(f"x {character}", 2)
            self.check_malformed(f"({character}", 1)

    def test_a_name_ends_before_another_character(self):
        self.check_malformed("abC", 2)
        self.check_malformed("a?", 1)
        self.check_malformed("if>", 2)
        self.check_malformed("_a", 0)
        self.check_malformed("x _", 2)
        self.check_malformed("Let", 0)

    def test_names_that_are_too_long(self):
        self.check_malformed("a" * 21, 0)
        self.check_malformed("x " + "b" * 21, 2)
        self.check_malformed("a_" * 10 + "1", 0)
        self.check_malformed("a" * 9999, 0)
        self.check_malformed("handle" * 4, 0)
        self.check_plain("a" * 20 + " " + "b", ("name", "a" * 20), ("name", "b"))

    def test_numbers_that_are_too_large(self):
        self.check_malformed("2147483648", 0)
        self.check_malformed("x + 2147483648", 4)
        self.check_malformed("4294967296", 0)
        self.check_malformed("10000000000", 0)
        self.check_malformed("9" * 5000, 0)
        self.check_malformed("1" * 10000, 0)

    def test_leading_zeros(self):
        for text in ("00", "01", "007", "0" * 10000, "02147483648", "0x"):
            self.check_malformed(text, 0)
        self.check_malformed("1 + 00", 4)
        self.check_malformed("0 01", 2)

    def test_numbers_that_something_follows_directly(self):
        for character in "abcdefghijklmnopqrstuvwxyzABCDEFGHIJKLMNOPQRSTUVWXYZ_":
            for digits in ("0", "7", "12", "2147483647"):
                self.check_malformed(digits + character, 0)
                self.check_malformed(f"x {digits}{character}", 2)
        self.check_malformed("1in", 0)
        self.check_malformed("(3then", 1)
        # Another character behind a number is the first bad token, not the number.
        self.check_malformed("12?", 2)
        self.check_malformed("1.5", 1)
        self.check_malformed("3>", 1)

    def test_the_first_bad_token_counts(self):
        self.check_malformed("x ? 01", 2)
        self.check_malformed("01 ?", 0)
        self.check_malformed("5_ 2147483648 " + "a" * 21, 0)
        self.check_malformed("x 2147483648 5_ " + "a" * 21, 2)
        self.check_malformed("x " + "a" * 21 + " ? 00", 2)
        self.check_malformed("A?", 0)

    def test_the_longest_text(self):
        self.assertEqual(tokenize(" " * 10000), [])
        self.assertEqual(len(tokenize("x " * 5000)), 5000)
        self.assertEqual(len(tokenize("+" * 10000)), 10000)
        self.assertEqual(tokenize(" " * 9999 + "x"), [("name", "x", 9999)])
        self.check_malformed(" " * 9999 + "?", 9999)

    def test_longer_texts(self):
        spaces = " " * 10000
        for text in (
            spaces + " ", spaces + "?", "?" + spaces, "x " * 5000 + "x", "\n" * 20000,
            "?" * 10001, "0" * 10001, "a" * 10001,
        ):
            with self.subTest(text[:20]):
                with self.assertRaises(Unbounded) as held:
                    tokenize(text)
                self.assertEqual(held.exception.name, "text")


if __name__ == "__main__":
    unittest.main()
