"""Tests of readingsall.grammar: morphs, arcs, ends, seams and growth (points 8 to 11)."""

import unittest
from itertools import product

from helpers import BAD_GLOSSES, GOOD_GLOSSES, NO_NAMES, GrammarTest, content, make
from readingsall.errors import BadGrammar, BadName, Duplicate, NoGrowth, Unknown
from readingsall.grammar import Grammar

NO_LETTERS = ("A", "1", "a1", "a b", " a", "a ", "aB", "a.b", "a-b", "?", "=", "*", "~", "ab!")


def grammar():
    return make([("num", ("sg", "pl")), ("case", ("nom", "acc")), ("odd", ("nom", "sg"))],
                [("n", ("num",)), ("s", ())])


class Morphs(GrammarTest):
    def test_numbers_and_morphs_in_order(self):
        given = grammar()
        wanted = [
            ("cat", "noun", (), 0, ""),
            ("s", "suffix", (("num", "pl"),), 3, "PL"),
            ("s", "suffix", (("num", "pl"),), 3, "PL"),
            ("em", "case", (("odd", "nom"), ("case", "acc"), ("num", "sg")), 1000, "ACC.SG-1"),
        ]
        for number, (text, kind, marks, cost, gloss) in enumerate(wanted):
            found = given.add_morph(text, kind, marks=marks, cost=cost, gloss=gloss)
            self.assertEqual((found, type(found)), (number, int))
            self.assertEqual(given.morphs(), wanted[:number + 1])

    def test_all_but_text_and_kind_may_be_left_out(self):
        given = grammar()
        given.add_morph("a", "k")
        given.add_morph("a", "k", marks=(("num", "sg"),))
        given.add_morph("a", "k", cost=9)
        given.add_morph("a", "k", gloss="G")
        self.assertEqual(given.morphs(), [("a", "k", (), 0, ""), ("a", "k", (("num", "sg"),), 0, ""),
                                          ("a", "k", (), 9, ""), ("a", "k", (), 0, "G")])
        with self.assertRaises(TypeError):
            grammar().add_morph("a", "k", ())

    def test_rules_and_morphs_have_numbers_of_their_own(self):
        given = grammar()
        self.assertEqual(given.add_morph("a", "k"), 0)
        self.assertEqual(given.add_rule(("n", ("sg",)), (("s", ()),)), 0)
        self.assertEqual(given.add_morph("b", "k"), 1)
        self.assertEqual(given.add_rule(("n", ("pl",)), (("s", ()),)), 1)

    def test_texts(self):
        for text in ("a", "z", "ab", "a" * 11, "a" * 12):
            given = grammar()
            given.add_morph(text, "k")
            self.assertEqual(given.morphs()[0][0], text)
        for text in ("", "a" * 13, "a" * 50) + NO_LETTERS:
            self.refuse(grammar(), BadName, "add_morph", text, "k")

    def test_kinds(self):
        for kind in ("k", "k" * 12, "k1", "num"):
            given = grammar()
            given.add_morph("a", kind)
            self.assertEqual(given.morphs()[0][1], kind)
        for kind in NO_NAMES:
            self.refuse(grammar(), BadName, "add_morph", "a", kind)

    def test_glosses(self):
        for gloss in ("",) + GOOD_GLOSSES:
            given = grammar()
            given.add_morph("a", "k", gloss=gloss)
            self.assertEqual(given.morphs()[0][4], gloss)
        for gloss in BAD_GLOSSES[1:]:
            self.refuse(grammar(), BadName, "add_morph", "a", "k", gloss=gloss)

    def test_costs(self):
        for cost in (0, 1, 1000):
            given = grammar()
            given.add_morph("a", "k", cost=cost)
            self.assertEqual(given.morphs()[0][3], cost)
        for cost in (-1, 1001, 10 ** 30, -10 ** 30):
            self.refuse(grammar(), BadGrammar, "add_morph", "a", "k", cost=cost)

    def test_marks_of_unknown_attributes(self):
        for name in ("n", "none", "", "A", "nom", "num "):
            for marks in (((name, "sg"),), (("num", "sg"), (name, "sg")), ((name, "nom"), ("case", "nom"))):
                self.refuse(grammar(), Unknown, "add_morph", "a", "k", marks=marks)
        self.refuse(Grammar(), Unknown, "add_morph", "a", "k", marks=(("num", "sg"),))

    def test_strings_that_are_no_values(self):
        for attribute, value in (("num", "nom"), ("num", ""), ("case", "sg"), ("case", "pl"), ("num", "*"),
                                 ("num", "?n"), ("num", "SG"), ("odd", "pl"), ("odd", "odd")):
            for marks in (((attribute, value),), (("num", "sg"), (attribute, value)), ((attribute, value), ("odd", "sg"))):
                self.refuse(grammar(), BadGrammar, "add_morph", "a", "k", marks=marks)

    def test_one_attribute_twice(self):
        for marks in ((("num", "sg"), ("num", "pl")), (("num", "sg"), ("num", "sg")),
                      (("num", "pl"), ("case", "nom"), ("num", "pl"))):
            self.refuse(grammar(), BadGrammar, "add_morph", "a", "k", marks=marks)

    def test_one_value_for_two_attributes(self):
        given = grammar()
        given.add_morph("a", "k", marks=(("case", "nom"), ("odd", "nom")))
        self.assertEqual(len(given.morphs()), 1)

    def test_several_errors(self):
        given = grammar()
        given.add_seam("abc", "d", "")
        bad = {"marks": (("none", "sg"),), "cost": -1}
        self.refuse(given, BadName, "add_morph", "A", "k", **bad)
        self.refuse(given, BadName, "add_morph", "d", "K", **bad)
        self.refuse(given, BadName, "add_morph", "d", "k", gloss="+", **bad)
        self.refuse(given, BadName, "add_morph", "d", "k", gloss="a" * 21, cost=1001)
        self.refuse(given, BadName, "add_morph", "d", "", marks=(("num", "nom"),))
        self.refuse(given, BadName, "add_morph", "d" * 13, "k")
        self.refuse(given, Unknown, "add_morph", "d", "k", **bad)
        self.refuse(given, Unknown, "add_morph", "d", "k", marks=(("num", "none"), ("none", "sg")))
        self.refuse(given, Unknown, "add_morph", "d", "k", marks=(("num", "sg"), ("num", "sg"), ("none", "sg")))
        self.refuse(given, Unknown, "add_morph", "d", "k", marks=(("none", "sg"), ("none", "sg")), cost=1001)
        self.refuse(given, BadGrammar, "add_morph", "d", "k", marks=(("num", "none"),))
        self.refuse(given, BadGrammar, "add_morph", "d", "k", marks=(("num", "sg"), ("num", "sg")))
        self.refuse(given, BadGrammar, "add_morph", "d", "k", cost=-1)
        self.refuse(given, NoGrowth, "add_morph", "d", "k")

    def test_the_next_number_is_not_used_up(self):
        given = grammar()
        given.add_seam("abc", "d", "")
        self.assertEqual(given.add_morph("a", "k"), 0)
        self.refuse(given, NoGrowth, "add_morph", "d", "k")
        self.refuse(given, BadName, "add_morph", "", "k")
        self.assertEqual(given.add_morph("b", "k"), 1)


class Arcs(GrammarTest):
    def test_in_their_order(self):
        given = Grammar()
        wanted = []
        for arc in (("q", "noun", "r"), ("q", "verb", "r"), ("r", "noun", "q"), ("b", "a", "a"), ("a", "a", "a")):
            given.add_arc(*arc)
            wanted.append(arc)
            self.assertEqual(given.arcs(), wanted)

    def test_bad_names(self):
        for text in NO_NAMES:
            for place in range(3):
                passed = ["q", "noun", "r"]
                passed[place] = text
                self.refuse(Grammar(), BadName, "add_arc", *passed)

    def test_duplicates(self):
        given = make(arcs=[("q", "noun", "r"), ("r", "verb", "q")])
        for arc in (("q", "noun", "r"), ("q", "noun", "s"), ("q", "noun", "q"), ("r", "verb", "r")):
            self.refuse(given, Duplicate, "add_arc", *arc)
        given.add_arc("q", "verb", "r")
        given.add_arc("r", "noun", "r")
        self.assertEqual(len(given.arcs()), 4)

    def test_bad_names_before_duplicates(self):
        given = make(arcs=[("q", "noun", "r")])
        for text in NO_NAMES:
            self.refuse(given, BadName, "add_arc", "q", "noun", text)


class Ends(GrammarTest):
    def test_in_their_order(self):
        given = grammar()
        wanted = []
        for end in (("q", "s"), ("q", "n"), ("a", "s"), ("r", "n"), ("s", "s")):
            given.add_end(*end)
            wanted.append(end)
            self.assertEqual(given.ends(), wanted)

    def test_refused_ones(self):
        given = grammar()
        given.add_end("q", "n")
        for text in NO_NAMES:
            self.refuse(given, BadName, "add_end", text, "n")
            self.refuse(given, BadName, "add_end", text, "none")
            self.refuse(given, Unknown, "add_end", "q", text)
        for name in ("none", "num", "sg", "q"):
            self.refuse(given, Unknown, "add_end", "q", name)
            self.refuse(given, Unknown, "add_end", "r", name)
        self.refuse(given, Duplicate, "add_end", "q", "n")


class Seams(GrammarTest):
    def test_in_their_order(self):
        given = Grammar()
        wanted = []
        for seam in (("y", "s", "ies"), ("a", "a", ""), ("ab", "cd", "x"), ("a", "b", ""), ("abcd", "abcd", "abcdefgh")):
            given.add_seam(*seam)
            wanted.append(seam)
            self.assertEqual(given.seams(), wanted)

    def test_lengths(self):
        for left, right, joined in product(("a", "ab", "abcd"), ("c", "cd", "cdef"), ("", "x", "x" * 8)):
            given = Grammar()
            given.add_seam(left, right, joined)
            self.assertEqual(given.seams(), [(left, right, joined)])
        for side in ("", "abcde", "a" * 20):
            self.refuse(Grammar(), BadName, "add_seam", side, "b", "c")
            self.refuse(Grammar(), BadName, "add_seam", "a", side, "c")
        for joined in ("a" * 9, "a" * 30):
            self.refuse(Grammar(), BadName, "add_seam", "a", "b", joined)

    def test_no_letters(self):
        for text in NO_LETTERS:
            for place in range(3):
                passed = ["a", "b", "c"]
                passed[place] = text
                self.refuse(Grammar(), BadName, "add_seam", *passed)

    def test_duplicates(self):
        given = make(seams=[("a", "b", "c"), ("ab", "b", "c")])
        for joined in ("c", "", "d", "abc"):
            self.refuse(given, Duplicate, "add_seam", "a", "b", joined)
        for seam in (("b", "a", "c"), ("a", "bc", "c"), ("a", "a", "c"), ("b", "b", "c")):
            given.add_seam(*seam)
        self.assertEqual(len(given.seams()), 6)

    def test_bad_names_before_duplicates(self):
        given = make(seams=[("a", "b", "c")])
        for joined in NO_LETTERS + ("a" * 9,):
            self.refuse(given, BadName, "add_seam", "a", "b", joined)


class Growth(GrammarTest):
    def no_growth(self, given, seam, text, method, *args):
        error = self.refuse(given, NoGrowth, method, *args)
        self.assertEqual((error.seam, error.text), (seam, text))
        self.assertIs(type(error.seam), tuple)

    def test_seams(self):
        # The text and the joined have 3 to 5 letters, the left and the right have 4.
        given = make(morphs=[("cdx", "k", (), 0, "")])
        self.no_growth(given, ("ab", "cd", ""), "cdx", "add_seam", "ab", "cd", "")
        self.no_growth(given, ("ab", "cd", "y"), "cdx", "add_seam", "ab", "cd", "y")
        given.add_seam("ab", "cd", "yy")
        self.assertEqual(given.seams(), [("ab", "cd", "yy")])

    def test_morphs(self):
        given = make(seams=[("ab", "cd", "y")])
        self.no_growth(given, ("ab", "cd", "y"), "cd", "add_morph", "cd", "k")
        self.no_growth(given, ("ab", "cd", "y"), "cdx", "add_morph", "cdx", "k")
        self.assertEqual(given.add_morph("cdxx", "k"), 0)
        self.assertEqual(given.morphs(), [("cdxx", "k", (), 0, "")])

    def test_all_lengths(self):
        for left, right, joined, text in product(range(1, 5), range(1, 5), range(9), range(1, 13)):
            seam, morph = ("a" * left, "b" * right, "c" * joined), "b" * text
            grows = text < right or text + joined > left + right
            if abs(text + joined - left - right) <= 1 or text == right:
                with self.subTest(seam=seam, morph=morph):
                    given, other = make(seams=[seam]), make(morphs=[(morph, "k", (), 0, "")])
                    if grows:
                        given.add_morph(morph, "k")
                        other.add_seam(*seam)
                        self.assertEqual(content(given), content(other))
                    else:
                        self.no_growth(given, seam, morph, "add_morph", morph, "k")
                        self.no_growth(other, seam, morph, "add_seam", *seam)

    def test_only_morphs_that_begin_with_the_right(self):
        given = make(seams=[("aaaa", "bb", "")])
        for text in ("b", "ba", "abb", "a", "cbb", "c", "bab"):
            given.add_morph(text, "k")
        self.no_growth(given, ("aaaa", "bb", ""), "bb", "add_morph", "bb", "k")
        given = make(morphs=[(text, "k", (), 0, "") for text in ("b", "ba", "abb", "cbb")])
        given.add_seam("aaaa", "bb", "")
        self.assertEqual(len(given.seams()), 1)

    def test_the_first_seam(self):
        seams = [("c", "d", "xx"), ("aaa", "bc", ""), ("aa", "b", ""), ("aaaa", "b", ""), ("aaaa", "bc", "")]
        given = make(seams=seams)
        self.no_growth(given, seams[1], "bc", "add_morph", "bc", "k")
        self.no_growth(given, seams[2], "b", "add_morph", "b", "k")
        self.no_growth(given, seams[1], "bcde", "add_morph", "bcde", "k")
        self.no_growth(given, seams[3], "bdef", "add_morph", "bdef", "k")
        self.assertEqual(given.add_morph("bdefgh", "k"), 0)

    def test_the_first_morph(self):
        texts = ("x", "bcdef", "bcde", "bc", "b", "bcd")
        given = make(morphs=[(text, "k", (), 0, "") for text in texts])
        self.no_growth(given, ("aaa", "bc", ""), "bcdef", "add_seam", "aaa", "bc", "")
        self.no_growth(given, ("aa", "bc", ""), "bcde", "add_seam", "aa", "bc", "")
        self.no_growth(given, ("aa", "bc", "x"), "bc", "add_seam", "aa", "bc", "x")
        self.no_growth(given, ("a", "b", "x"), "b", "add_seam", "a", "b", "x")
        given.add_seam("aa", "bc", "xyz")
        self.assertEqual(given.seams(), [("aa", "bc", "xyz")])

    def test_bad_names_and_duplicates_come_first(self):
        given = make(morphs=[("b", "k", (), 0, "")], seams=[("a", "b", "xx")])
        self.refuse(given, Duplicate, "add_seam", "a", "b", "")
        self.refuse(given, BadName, "add_seam", "a", "b", "X")
        self.refuse(given, BadName, "add_seam", "A", "b", "")
        self.refuse(given, BadName, "add_seam", "aaaaa", "b", "")
        self.no_growth(given, ("c", "b", ""), "b", "add_seam", "c", "b", "")
        # A refused seam is none: it may still be added, and morphs need not grow with it.
        given.add_seam("c", "b", "xx")
        self.assertEqual(given.add_morph("bx", "k"), 1)


if __name__ == "__main__":
    unittest.main()
