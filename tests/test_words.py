"""Tests of readingsall.words (points 9, 11, 12 and 13)."""

import random
import unittest
from itertools import product

from helpers import content, make
from plain import (add_seams, plain_join, plain_labels, plain_marks, plain_rows, plain_state, plain_text,
                   some_grammar)
from readingsall.grammar import Grammar
from readingsall.words import join, row_labels, row_marks, row_state, row_text, rows_up_to


def morph(text, kind="k", *marks):
    return (text, kind, marks, 0, "")


class Join(unittest.TestCase):
    def check(self, seams, text, more, wanted):
        with self.subTest(seams=seams, text=text, more=more):
            self.assertEqual(join(seams, text, more), wanted)

    def test_no_seam(self):
        self.check([], "cat", "s", "cats")
        self.check([], "", "s", "s")
        self.check([], "", "", "")
        self.check([("y", "s", "ies")], "cat", "s", "cats")

    def test_the_seam_replaces_both_sides(self):
        self.check([("y", "s", "ies")], "city", "s", "cities")
        self.check([("ab", "cd", "x")], "zzab", "cdyy", "zzxyy")
        self.check([("abcd", "efgh", "ijklmnop")], "zabcd", "efghz", "zijklmnopz")

    def test_an_empty_joined(self):
        self.check([("e", "i", "")], "make", "ing", "makng")
        self.check([("a", "b", "")], "a", "b", "")

    def test_the_first_of_several_that_fit(self):
        first, second, third = ("b", "c", "x"), ("ab", "c", "y"), ("b", "cd", "z")
        self.check([first, second, third], "aab", "cdd", "aaxdd")
        self.check([second, first, third], "aab", "cdd", "aydd")
        self.check([third, second, first], "aab", "cdd", "aazd")
        self.check([second, third, first], "ab", "cc", "yc")
        self.check([second, third, first], "b", "cc", "xc")
        self.check([second, third, first], "b", "cdc", "zc")

    def test_one_seam_alone_is_used(self):
        self.check([("a", "b", "a"), ("a", "b", "c"), ("aa", "b", "d")], "aaa", "bb", "aaab")
        self.check([("a", "b", "ab"), ("b", "b", "x")], "a", "bb", "abb")

    def test_a_side_that_does_not_stand_there(self):
        seams = [("ab", "cd", "x")]
        for text, more in (("ab", "dc"), ("ba", "cd"), ("b", "cd"), ("ab", "c"), ("abz", "cd"), ("ab", "zcd"),
                           ("", "cd"), ("ab", ""), ("cd", "ab"), ("", ""), ("abc", "d")):
            self.check(seams, text, more, text + more)

    def test_texts_that_are_the_sides(self):
        self.check([("ab", "cd", "x")], "ab", "cd", "x")
        self.check([("ab", "cd", "x")], "zab", "cd", "zx")
        self.check([("ab", "cd", "x")], "ab", "cdz", "xz")
        self.check([("ab", "cd", "")], "ab", "cd", "")

    def test_the_left_at_other_places(self):
        self.check([("ab", "c", "x")], "abab", "cc", "abxc")
        self.check([("a", "a", "")], "aaa", "aaa", "aaaa")

    def test_the_list_is_not_modified(self):
        seams = [("b", "c", "x"), ("ab", "c", "y")]
        join(seams, "ab", "c")
        self.assertEqual(seams, [("b", "c", "x"), ("ab", "c", "y")])

    def test_against_the_document(self):
        chance = random.Random(5)
        for _ in range(300):
            given = Grammar()
            add_seams(given, chance)
            text, more = ["".join(chance.choice("ab") for _ in range(chance.randrange(6))) for _ in range(2)]
            self.check(given.seams(), text, more, plain_join(given.seams(), text, more))


# The attributes stand in no order of the alphabet, the category has them in another order.
ATTRIBUTES = [("num", ("sg", "pl")), ("case", ("nom", "acc")), ("mood", ("sg", "irr"))]
CATEGORIES = [("v", ("mood",)), ("n", ("case", "num")), ("s", ())]
MORPHS = [
    morph("cat", "root"),
    morph("city", "root", ("num", "sg")),
    morph("s", "num", ("num", "pl")),
    morph("o", "num", ("num", "sg")),
    morph("em", "case", ("case", "acc")),
    morph("a", "both", ("mood", "irr"), ("num", "pl")),
    morph("ity", "lone"),
]
ARCS = [("q", "root", "r"), ("r", "num", "t"), ("t", "case", "u"), ("r", "both", "v"), ("t", "num", "t"), ("v", "root", "q")]
ENDS = [("r", "n"), ("t", "n"), ("u", "n"), ("u", "v"), ("t", "s"), ("v", "v"), ("q", "s")]
SEAMS = [("y", "s", "ies"), ("ies", "em", "iesxx"), ("t", "ity", "city"), ("at", "a", "")]


def grammar(first="q"):
    return make(ATTRIBUTES, CATEGORIES, [], MORPHS, ARCS, ENDS, SEAMS[:3], None, first)


class RowText(unittest.TestCase):
    def test_rows(self):
        given = grammar()
        for row, wanted in (((), ""), ((0,), "cat"), ((0, 2), "cats"), ((1, 2), "cities"), ((1, 3), "cityo"),
                            ((2, 2, 2), "sss"), ((1, 1), "citycity"), ((0, 6), "cacity"), ((0, 6, 2), "cacities")):
            with self.subTest(row):
                self.assertEqual(row_text(given, row), wanted)

    def test_a_seam_that_changes_letters_of_earlier_morphs(self):
        self.assertEqual(row_text(grammar(), (1, 2, 4)), "citiesxx")
        given = make(morphs=[morph("a"), morph("b"), morph("cde")], seams=[("ab", "c", "x"), ("x", "b", "yz")])
        self.assertEqual(row_text(given, (0, 1, 2)), "xde")
        self.assertEqual(row_text(given, (0, 0, 1, 2)), "axde")
        given = make(morphs=[morph("a"), morph("bbbbbb")], seams=[("aaa", "bb", "")])
        self.assertEqual(row_text(given, (0, 0, 0, 0, 1)), "abbbb")

    def test_a_seam_that_fits_the_joined_letters_of_the_one_before(self):
        given = make(morphs=[morph("a"), morph("bc")], seams=[("a", "b", "xd")])
        self.assertEqual(row_text(given, (0, 1)), "xdc")
        self.assertEqual(row_text(given, (0, 1, 1)), "xdcbc")
        given.add_seam("xdc", "bc", "zzzz")
        self.assertEqual(row_text(given, (0, 1, 1)), "zzzz")

    def test_a_text_needs_no_state_and_no_marks(self):
        self.assertEqual(row_text(grammar(None), (2, 2, 3)), "sso")

    def test_a_long_row(self):
        self.assertEqual(row_text(grammar(), (2,) * 3000), "s" * 3000)


class RowState(unittest.TestCase):
    def check(self, given, row, wanted):
        with self.subTest(row):
            self.assertEqual(row_state(given, row), wanted)

    def test_rows(self):
        given = grammar()
        for row, wanted in (((), "q"), ((0,), "r"), ((1,), "r"), ((0, 2), "t"), ((0, 3, 2, 3), "t"), ((0, 2, 4), "u"),
                            ((0, 5, 1), "q"), ((0, 5, 1, 0), "r")):
            self.check(given, row, wanted)

    def test_a_missing_arc(self):
        for row in ((2,), (6,), (0, 0), (0, 4), (0, 2, 4, 4), (0, 2, 4, 2), (6, 0), (2, 0, 2), (0, 6, 0)):
            self.check(grammar(), row, None)

    def test_no_first_state(self):
        for row in ((), (0,), (0, 2), (6,)):
            self.check(grammar(None), row, None)
            self.check(make(ATTRIBUTES, morphs=MORPHS), row, None)

    def test_a_first_state_without_arcs(self):
        self.check(grammar("nowhere"), (), "nowhere")
        self.check(grammar("nowhere"), (0,), None)

    def test_a_conflict_does_not_matter(self):
        self.check(grammar(), (1, 2), "t")


class RowMarks(unittest.TestCase):
    def check(self, row, wanted):
        for given in (grammar(), grammar(None)):
            with self.subTest(row):
                self.assertEqual(row_marks(given, row), wanted)

    def test_marks_in_the_order_of_the_attributes(self):
        self.check((), ("", "", ""))
        self.check((0,), ("", "", ""))
        self.check((2,), ("pl", "", ""))
        self.check((4,), ("", "acc", ""))
        self.check((4, 2), ("pl", "acc", ""))
        self.check((5,), ("pl", "", "irr"))
        self.check((0, 5, 4), ("pl", "acc", "irr"))

    def test_the_same_value_twice(self):
        self.check((2, 2), ("pl", "", ""))
        self.check((1, 3, 1), ("sg", "", ""))
        self.check((2, 5, 4, 4), ("pl", "acc", "irr"))

    def test_a_conflict(self):
        for row in ((1, 2), (2, 3), (3, 2, 3), (0, 3, 4, 5), (1, 0, 0, 5), (5, 4, 3)):
            self.check(row, None)

    def test_one_value_of_two_attributes_is_no_conflict(self):
        given = make(ATTRIBUTES, [], [], [morph("a", "k", ("mood", "sg")), morph("b", "k", ("num", "pl"))])
        self.assertEqual(row_marks(given, (0, 1)), ("pl", "", "sg"))

    def test_no_attributes(self):
        given = make(morphs=[morph("a")])
        self.assertEqual(row_marks(given, ()), ())
        self.assertEqual(row_marks(given, (0, 0)), ())


class RowLabels(unittest.TestCase):
    def check(self, given, row, wanted):
        with self.subTest(row):
            found = row_labels(given, row)
            self.assertEqual(found, wanted)
            self.assertIs(type(found), list)

    def test_marks_and_no_marks(self):
        given = grammar()
        self.check(given, (0,), [("n", ("acc", "pl")), ("n", ("acc", "sg")), ("n", ("nom", "pl")), ("n", ("nom", "sg"))])
        self.check(given, (1,), [("n", ("acc", "sg")), ("n", ("nom", "sg"))])

    def test_several_categories_in_ascending_order(self):
        given = grammar()
        self.check(given, (0, 2), [("n", ("acc", "pl")), ("n", ("nom", "pl")), ("s", ())])
        self.check(given, (0, 2, 4), [("n", ("acc", "pl")), ("v", ("irr",)), ("v", ("sg",))])

    def test_marks_of_attributes_that_the_category_has_not(self):
        self.check(grammar(), (0, 5), [("v", ("irr",))])
        self.check(grammar(), (0, 5, 0), [("s", ())])

    def test_a_category_without_attributes(self):
        given = make([], [("s", ()), ("a", ())], [], [morph("a")], [("q", "k", "q")], [("q", "s"), ("q", "a")], first="q")
        self.check(given, (0, 0), [("a", ()), ("s", ())])

    def test_the_empty_row_has_none(self):
        self.check(grammar(), (), [])

    def test_no_state(self):
        for row in ((6,), (0, 0), (2,)):
            self.check(grammar(), row, [])
        for row in ((), (0,), (0, 2)):
            self.check(grammar(None), row, [])

    def test_no_end(self):
        given = make([], [("s", ())], [], [morph("a")], [("q", "k", "r")], [("q", "s")], first="q")
        self.check(given, (0,), [])

    def test_a_conflict(self):
        self.check(grammar(), (1, 2), [])
        self.check(grammar(), (0, 2, 3), [])

    def test_a_conflict_in_an_attribute_that_the_category_has_not(self):
        given = make(ATTRIBUTES, [("s", ())], [], [morph("a", "k", ("num", "sg")), morph("b", "k", ("num", "pl"))],
                     [("q", "k", "q")], [("q", "s")], first="q")
        self.check(given, (0,), [("s", ())])
        self.check(given, (0, 1), [])
        self.check(given, (0, 1, 0), [])

    def test_the_list_is_a_new_one(self):
        given = grammar()
        found = row_labels(given, (1,))
        found.clear()
        self.check(given, (1,), [("n", ("acc", "sg")), ("n", ("nom", "sg"))])


class RowsUpTo(unittest.TestCase):
    def check(self, given, most):
        with self.subTest(most=most, grammar=content(given)):
            wanted = [row for row in plain_rows(given, most) if plain_labels(given, row)]
            found = rows_up_to(given, most)
            self.assertEqual(found, wanted)
            self.assertIs(type(found), list)

    def test_none_one_and_more(self):
        given = grammar()
        self.assertEqual(rows_up_to(given, -1), [])
        self.assertEqual(rows_up_to(given, 0), [])
        self.assertEqual(rows_up_to(given, 1), [(0,), (1,)])
        self.assertEqual(rows_up_to(given, 2), [(0,), (1,), (0, 2), (0, 3), (0, 5), (1, 3)])
        for most in range(5):
            self.check(given, most)

    def test_without_a_first_state(self):
        self.assertEqual(rows_up_to(grammar(None), 3), [])
        self.assertEqual(rows_up_to(Grammar(), 3), [])

    def test_the_end_far_away(self):
        states = "abcdefg"
        given = make([], [("s", ())], [], [morph("a"), morph("b")], [(one, "k", two) for one, two in zip(states, states[1:])],
                     [("e", "s")], first="a")
        self.assertEqual(rows_up_to(given, 3), [])
        self.assertEqual(rows_up_to(given, 4), list(product((0, 1), repeat=4)))
        self.assertEqual(rows_up_to(given, 5), list(product((0, 1), repeat=4)))

    def test_no_row_is_longer_though_more_were_allowed(self):
        given = make([], [("s", ())], [], [morph("a")], [("a", "k", "b"), ("b", "k", "c"), ("c", "k", "d")],
                     [("b", "s"), ("c", "s")], first="a")
        self.assertEqual(rows_up_to(given, 10 ** 30), [(0,), (0, 0)])

    def test_a_round_that_leads_to_no_end(self):
        given = make([], [("s", ())], [], [morph("a"), morph("b"), morph("c", "m")],
                     [("a", "k", "b"), ("b", "k", "b"), ("a", "m", "c")], [("c", "s")], first="a")
        self.assertEqual(rows_up_to(given, 60), [(2,)])
        self.assertEqual(rows_up_to(given, 10 ** 30), [(2,)])

    def test_many_rows_that_cannot_come_to_an_end_in_time(self):
        states = [f"q{k}" for k in range(26)]
        given = make([], [("s", ())], [], [morph("a"), morph("b"), morph("c"), morph("d", "m")],
                     [("q0", "k", "q0"), *[(one, "m", two) for one, two in zip(states, states[1:])]],
                     [("q25", "s")], first="q0")
        self.assertEqual(rows_up_to(given, 24), [])
        self.assertEqual(rows_up_to(given, 26), [(3,) * 25, *[(number, *(3,) * 25) for number in range(3)]])

    def test_against_the_document(self):
        chance = random.Random(11)
        for _ in range(150):
            self.check(some_grammar(chance), chance.randrange(1, 5))


class AgainstTheDocument(unittest.TestCase):
    def test_all_rows_of_some_grammars(self):
        chance = random.Random(3)
        for _ in range(100):
            given = some_grammar(chance)
            kept = content(given)
            for row in plain_rows(given, 3):
                with self.subTest(row=row, grammar=kept):
                    self.assertEqual(row_text(given, row), plain_text(given, row))
                    self.assertEqual(row_state(given, row), plain_state(given, row))
                    self.assertEqual(row_marks(given, row), plain_marks(given, row))
                    self.assertEqual(row_labels(given, row), plain_labels(given, row))
            self.assertEqual(content(given), kept)


if __name__ == "__main__":
    unittest.main()
