"""Tests of readingsall.names (point 3)."""

import unittest

from readingsall.errors import BadText, ReadingsError
from readingsall.names import is_form, is_gloss, is_letters, is_name, join_words, split_text

LETTERS = "abcdefghijklmnopqrstuvwxyz"
DIGITS = "0123456789"
# Point 2: strings contain only these.
ALL_CHARACTERS = [chr(code) for code in range(ord(" "), ord("~") + 1) if chr(code) != "%"]


class IsName(unittest.TestCase):
    def check(self, text, wanted):
        with self.subTest(text):
            self.assertIs(is_name(text), wanted)

    def test_ordinary_names(self):
        for text in ("np", "a", "z", "case", "x1", "a0b9", "verb2nd", "start", "rule"):
            self.check(text, True)

    def test_lengths(self):
        self.check("", False)
        self.check("a", True)
        self.check("a" * 11, True)
        self.check("a" * 12, True)
        self.check("a" * 13, False)
        self.check("a" * 60, False)
        self.check("a" + "1" * 11, True)
        self.check("a" + "1" * 12, False)

    def test_each_character_first_alone_and_later(self):
        for char in ALL_CHARACTERS:
            self.check(char, char in LETTERS)
            self.check(char + "a", char in LETTERS)
            self.check("a" + char, char in LETTERS + DIGITS)
            self.check("ab" + char + "c", char in LETTERS + DIGITS)
            self.check("abcdefghijk" + char, char in LETTERS + DIGITS)

    def test_wrong_names(self):
        for text in ("1", "1a", "Np", "nP", "NP", "n p", " np", "np ", "n_p", "_np", "n-p", "?np",
                     "*", "n.p", "=", "$1", ":", "->", "+"):
            self.check(text, False)


class IsGloss(unittest.TestCase):
    def check(self, text, wanted):
        with self.subTest(text):
            self.assertIs(is_gloss(text), wanted)

    def test_lengths(self):
        for many in range(25):
            self.check("a" * many, 1 <= many <= 20)
            self.check("." * many, 1 <= many <= 20)

    def test_each_character_at_each_place(self):
        for char in ALL_CHARACTERS:
            for text in (char, char + "a", "PL" + char, "1" + char + "-"):
                self.check(text, char in LETTERS + LETTERS.upper() + DIGITS + ".-")


class IsLetters(unittest.TestCase):
    def test_lengths(self):
        for many in range(6):
            for least in range(6):
                for most in range(6):
                    with self.subTest(many=many, least=least, most=most):
                        self.assertIs(is_letters("z" * many, least, most), least <= many <= most)

    def test_each_character_at_each_place(self):
        for char in ALL_CHARACTERS:
            for text in (char, char + "a", "ab" + char, "a" + char + "b"):
                with self.subTest(text):
                    self.assertIs(is_letters(text, 1, 3), char in LETTERS)


class IsForm(unittest.TestCase):
    def check(self, text, wanted):
        with self.subTest(text):
            self.assertIs(is_form(text), wanted)

    def test_forms_of_any_length(self):
        for text in list(LETTERS) + ["cat", LETTERS, "a" * 12, "a" * 13, "b" * 60, "z" * 5000]:
            self.check(text, True)

    def test_the_empty_string(self):
        self.check("", False)

    def test_each_character_at_each_place(self):
        for char in ALL_CHARACTERS:
            for text in (char, char + "cat", "c" + char + "at", "cat" + char, "c" * 60 + char):
                self.check(text, char in LETTERS)

    def test_wrong_forms(self):
        for text in ("a1", "1", "A", "Cat", "caT", "a b", " a", "a ", " ", "=", "a-b", "a.b"):
            self.check(text, False)


class SplitText(unittest.TestCase):
    def check(self, text, wanted):
        with self.subTest(text):
            found = split_text(text)
            self.assertEqual(found, wanted)
            self.assertIs(type(found), list)

    def check_bad(self, text):
        with self.subTest(text):
            with self.assertRaises(BadText) as held:
                split_text(text)
            self.assertIsInstance(held.exception, ReadingsError)

    def test_texts(self):
        self.check("", [])
        self.check("a", ["a"])
        self.check("cat", ["cat"])
        self.check("the cat sat", ["the", "cat", "sat"])
        self.check("a a a", ["a", "a", "a"])
        self.check("b" * 70 + " c", ["b" * 70, "c"])
        self.check(" ".join(["word"] * 1000), ["word"] * 1000)

    def test_spaces_at_wrong_places(self):
        for text in (" ", "  ", "   ", " a", "a ", " a ", "a  b", "a   b", "  a", "a  ", "a b ",
                     " a b", "a b  c"):
            self.check_bad(text)

    def test_each_other_character(self):
        for char in ALL_CHARACTERS:
            if char not in LETTERS + " ":
                for text in (char, "a" + char, char + "a", "a " + char, char + " a", "a b" + char + "c"):
                    self.check_bad(text)

    def test_the_list_is_a_new_one_each_time(self):
        for text, wanted in (("", []), ("cat", ["cat"]), ("the cat", ["the", "cat"])):
            one, two = split_text(text), split_text(text)
            self.assertIsNot(one, two)
            one.append("more")
            self.assertEqual(two, wanted)
            self.assertEqual(split_text(text), wanted)


class JoinWords(unittest.TestCase):
    def test_texts(self):
        for words, wanted in (([], ""), (["a"], "a"), (["the", "cat"], "the cat"),
                              (["a", "a", "b"], "a a b"), (["b" * 70, "c"], "b" * 70 + " c")):
            with self.subTest(words):
                self.assertEqual(join_words(words), wanted)

    def test_there_and_back(self):
        for words in ([], ["a"], ["the", "cat", "sat"], ["z"] * 100):
            with self.subTest(words):
                self.assertEqual(split_text(join_words(words)), words)
        for text in ("", "a", "the cat sat"):
            with self.subTest(text):
                self.assertEqual(join_words(split_text(text)), text)

    def test_the_list_is_not_modified(self):
        for words in ([], ["a"], ["the", "cat"]):
            kept = list(words)
            join_words(words)
            self.assertEqual(words, kept)


if __name__ == "__main__":
    unittest.main()
