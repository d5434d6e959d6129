"""Tests of readingsall.stages (points 12, 13, 17 and 18)."""

import random
import unittest
from itertools import product

from helpers import content, make
from plain import (every_label, plain_agrees, plain_labels, plain_possible, plain_rows, plain_stages, plain_text,
                   some_grammar)
from readingsall.grammar import Grammar
from readingsall.stages import is_complete, possible, reach, rows_of, stages


def morph(text, kind="k", *marks):
    return (text, kind, marks, 0, "")


def loop(texts, seams=(), ends=(("q", "s"),)):
    """A grammar with one state, in which any row of the morphs with these texts has a label."""
    return make([], [("s", ())], [], [morph(text) for text in texts], [("q", "k", "q")], ends, seams, first="q")


class Reach(unittest.TestCase):
    def test_the_longest_left(self):
        given = Grammar()
        self.assertEqual(reach(given), 0)
        for seam, wanted in ((("a", "bbbb", "c" * 8), 1), (("abc", "b", ""), 3), (("ab", "c", ""), 3),
                             (("a", "c", ""), 3), (("abcd", "d", "xy"), 4), (("bcd", "d", "xy"), 4)):
            given.add_seam(*seam)
            self.assertEqual(reach(given), wanted)

    def test_morphs_do_not_matter(self):
        self.assertEqual(reach(loop(["abcd"])), 0)


class Possible(unittest.TestCase):
    def check(self, most, text, form, wanted):
        given = Grammar()
        if most:
            given.add_seam("zzzz"[:most], "q", "zzzz")
        with self.subTest(reach=most, text=text, form=form):
            self.assertIs(possible(given, text, form), wanted)

    def test_no_seams(self):
        for text, wanted in (("", True), ("c", True), ("ca", True), ("cat", True), ("cats", False), ("co", False),
                             ("at", False), ("a", False), ("cot", False), ("catcat", False)):
            self.check(0, text, "cat", wanted)

    def test_equal_strings(self):
        for most in range(5):
            for text in ("a", "ab", "cat", "c" * 30):
                self.check(most, text, text, True)

    def test_as_long_as_the_form_but_another(self):
        for most in range(5):
            self.check(most, "cab", "cat", False)
            self.check(most, "b", "a", False)
            self.check(most, "abcdefgx", "abcdefgh", False)

    def test_longer_than_the_form(self):
        for most in range(5):
            for text in ("cats", "catx", "ccat", "catcatcat"):
                self.check(most, text, "cat", False)

    def test_the_reach_that_just_suffices(self):
        for most in range(5):
            for wrong in range(6):
                text = "abcdefgh"[:8 - wrong] + "x" * wrong
                self.check(most, text, "abcdefghij", wrong <= most)
                self.check(most, text, "abcdefghi", wrong <= most)

    def test_no_letters_are_left(self):
        for most in range(5):
            for many in range(5):
                self.check(most, "x" * many, "abcdef", many <= most)
        self.check(4, "x", "ab", True)
        self.check(4, "xx", "ab", False)
        self.check(4, "xxx", "abcd", True)

    def test_the_empty_text(self):
        for most in range(5):
            self.check(most, "", "a", True)
            self.check(most, "", "abcdefgh", True)

    def test_against_the_document(self):
        for most in range(4):
            given = make(seams=[("aaaa"[:most], "b", "aaaa")] if most else [])
            for one, other in product(range(5), range(1, 5)):
                for text, form in product(product("ab", repeat=one), product("ab", repeat=other)):
                    text, form = "".join(text), "".join(form)
                    self.assertIs(possible(given, text, form), plain_possible(given, text, form))


class StagesTest(unittest.TestCase):
    def check(self, given, form, wanted):
        with self.subTest(form=form, grammar=content(given)):
            found = stages(given, form)
            self.assertEqual(found, wanted)
            self.assertIs(type(found), list)
            for row in found:
                self.assertIs(type(row), tuple)
                self.assertIs(type(row[1]), list)


class Stages(StagesTest):
    def test_no_first_state(self):
        given = make([], [("s", ())], [], [morph("a")], [("q", "k", "q")], [("q", "s")])
        self.check(given, "a", [])
        self.check(Grammar(), "a", [])

    def test_the_stage_of_the_empty_row(self):
        given = make([], [], first="q")
        self.check(given, "a", [(("q", "", ()), [])])
        given = make([("a", ("x",)), ("b", ("x",))], [], [], [morph("b")], [("q", "k", "q")], first="q")
        self.check(given, "a", [(("q", "", ("", "")), [])])

    def test_no_arc_from_the_first_state(self):
        given = make([], [], [], [morph("a"), morph("a", "m")], [("r", "k", "q"), ("q", "h", "q")], first="q")
        self.check(given, "a", [(("q", "", ()), [])])

    def test_one_morph_after_another(self):
        empty, one, two = ("q", "", ()), ("q", "a", ()), ("q", "ab", ())
        self.check(loop(["a", "b"]), "ab", [(empty, []), (one, [(empty, 0)]), (two, [(one, 1)])])

    def test_several_ways_of_one_stage(self):
        # By the numbers of the morphs first, then by the earlier stages.
        given = loop(["ab", "a", "b", "a", "b"])
        empty, one, two = ("q", "", ()), ("q", "a", ()), ("q", "ab", ())
        self.check(given, "ab", [(empty, []), (one, [(empty, 1), (empty, 3)]),
                                 (two, [(empty, 0), (one, 2), (one, 4)])])

    def test_one_morph_from_several_earlier_stages(self):
        given = make([("n", ("x", "y"))], [("s", ())], [],
                     [morph("b"), morph("a", "k", ("n", "y")), morph("a", "m"), morph("a", "k", ("n", "x"))],
                     [("z", "k", "p"), ("z", "m", "q"), ("p", "m", "q"), ("p", "k", "q"), ("q", "k", "r")], first="z")
        empty = ("z", "", ("",))
        by_x, by_y, plain = ("p", "a", ("x",)), ("p", "a", ("y",)), ("q", "a", ("",))
        self.check(given, "ab", [
            (by_x, [(empty, 3)]),
            (by_y, [(empty, 1)]),
            (plain, [(empty, 2)]),
            (("q", "ab", ("x",)), [(by_x, 0)]),
            (("q", "ab", ("y",)), [(by_y, 0)]),
            (("r", "ab", ("",)), [(plain, 0)]),
            (empty, []),
        ])

    def test_earlier_stages_in_ascending_order(self):
        # One number by two ways: the joined text is the same from both texts.
        given = loop(["xb", "xa", "cdefg"], [("a", "c", "y"), ("b", "c", "y")])
        empty, by_a, by_b = ("q", "", ()), ("q", "xa", ()), ("q", "xb", ())
        self.check(given, "xydefg", [(empty, []), (by_a, [(empty, 1)]), (by_b, [(empty, 0)]),
                                     (("q", "xydefg", ()), [(by_a, 2), (by_b, 2)])])
        given = make([], [], [], [morph("a", "m"), morph("a", "h"), morph("b"), morph("b")],
                     [("q", "m", "t"), ("q", "h", "r"), ("t", "k", "u"), ("r", "k", "u")], first="q")
        empty, high, low = ("q", "", ()), ("t", "a", ()), ("r", "a", ())
        self.check(given, "ab", [(empty, []), (low, [(empty, 1)]), (high, [(empty, 0)]),
                                 (("u", "ab", ()), [(low, 2), (high, 2), (low, 3), (high, 3)])])

    def test_a_seam_has_taken_away_the_last_letters(self):
        given = loop(["city", "s"], [("y", "s", "ies")])
        empty, one = ("q", "", ()), ("q", "city", ())
        self.check(given, "cities", [(empty, []), (("q", "cities", ()), [(one, 1)]), (one, [(empty, 0)]),
                                     (("q", "s", ()), [(empty, 1)])])

    def test_the_reach_that_just_suffices(self):
        given = loop(["abxxxx", "cdefghi"], [("xxxx", "c", "")])
        empty, one = ("q", "", ()), ("q", "abxxxx", ())
        self.check(given, "abdefghi", [(empty, []), (("q", "abdefghi", ()), [(one, 1)]), (one, [(empty, 0)])])
        # One letter less: the text is not possible any more.
        given = loop(["abxxxx", "cdefghi"], [("xxx", "c", "")])
        self.check(given, "abdefghi", [(empty, [])])

    def test_stages_that_lead_nowhere_are_stages(self):
        given = loop(["a", "ab", "zz"], [("z", "y", "zzz")])
        empty, one, two = ("q", "", ()), ("q", "a", ()), ("q", "ab", ())
        self.check(given, "abc", [(empty, []), (one, [(empty, 0)]), (("q", "aa", ()), [(one, 0)]), (two, [(empty, 1)])])

    def test_marks_that_conflict(self):
        given = make([("n", ("x", "y")), ("c", ("x", "z"))], [("s", ())], [],
                     [morph("a", "k", ("n", "x")), morph("b", "k", ("n", "y")), morph("b", "k", ("c", "x"), ("n", "x"))],
                     [("q", "k", "q")], [("q", "s")], first="q")
        empty, one = ("q", "", ("", "")), ("q", "a", ("x", ""))
        self.check(given, "ab", [(empty, []), (one, [(empty, 0)]), (("q", "ab", ("x", "x")), [(one, 2)])])
        both, neither = ("q", "b", ("x", "x")), ("q", "b", ("y", ""))
        self.check(given, "bb", [(empty, []), (both, [(empty, 2)]), (neither, [(empty, 1)]),
                                 (("q", "bb", ("x", "x")), [(both, 2)]), (("q", "bb", ("y", "")), [(neither, 1)])])

    def test_the_order_of_the_stages(self):
        given = make([("n", ("x", "y"))], [], [], [morph("a", "k", ("n", "y")), morph("a", "k", ("n", "x")), morph("a"),
                                                   morph("aa", "m")],
                     [("q", "k", "p"), ("p", "k", "q"), ("q", "m", "a")], first="q")
        found = [stage for stage, _ in stages(given, "aa")]
        self.assertEqual(found, [("a", "aa", ("",)), ("p", "a", ("",)), ("p", "a", ("x",)), ("p", "a", ("y",)),
                                 ("q", "", ("",)), ("q", "aa", ("",)), ("q", "aa", ("x",)), ("q", "aa", ("y",))])

    def test_no_earlier_text_is_longer(self):
        # Point 10 rules it out: by each way the text has more letters than before.
        chance = random.Random(21)
        for _ in range(100):
            given = some_grammar(chance)
            for (_, text, _), ways in stages(given, "abaab"):
                for (_, earlier, _), _ in ways:
                    self.assertLess(len(earlier), len(text))

    def test_a_long_form(self):
        found = stages(loop(["a"]), "a" * 1500)
        self.assertEqual(len(found), 1501)
        self.assertEqual(found[-1], (("q", "a" * 1500, ()), [(("q", "a" * 1499, ()), 0)]))

    def test_a_form_with_many_rows(self):
        given = loop(["a", "aa", "a", "aa"])
        found = stages(given, "a" * 60)
        self.assertEqual(len(found), 61)
        for many in range(2, 61):
            one, two = ("q", "a" * (many - 1), ()), ("q", "a" * (many - 2), ())
            self.assertEqual(found[many], (("q", "a" * many, ()), [(one, 0), (two, 1), (one, 2), (two, 3)]))

    def test_against_the_document(self):
        chance = random.Random(13)
        for _ in range(150):
            given = some_grammar(chance)
            for _ in range(3):
                form = "".join(chance.choice("aab") for _ in range(chance.randrange(1, 7)))
                self.check(given, form, plain_stages(given, form))

    def test_the_lists_are_new_ones(self):
        given = loop(["a", "b"])
        kept, wanted = content(given), stages(given, "ab")
        found = stages(given, "ab")
        for _, ways in found:
            ways.append("more")
        found.reverse()
        found.pop()
        self.check(given, "ab", wanted)
        self.assertEqual(content(given), kept)
        self.assertEqual(len({id(ways) for _, ways in wanted}), len(wanted))


class IsComplete(unittest.TestCase):
    def grammar(self):
        return make([("num", ("sg", "pl")), ("case", ("nom", "acc"))], [("n", ("case", "num")), ("c", ("case",)), ("s", ())],
                    [], [morph("a"), morph("b", "k", ("num", "pl"))], [("q", "k", "q"), ("q", "m", "r")],
                    [("q", "n"), ("q", "c"), ("r", "s")], first="q")

    def check(self, stage, form, label, wanted):
        with self.subTest(stage=stage, form=form, label=label):
            self.assertIs(is_complete(self.grammar(), stage, form, label), wanted)

    def test_marks(self):
        for case, num in product(("nom", "acc"), ("sg", "pl")):
            label = ("n", (case, num))
            self.check(("q", "ab", ("", "")), "ab", label, True)
            self.check(("q", "ab", ("pl", "")), "ab", label, num == "pl")
            self.check(("q", "ab", ("", "acc")), "ab", label, case == "acc")
            self.check(("q", "ab", ("sg", "nom")), "ab", label, (case, num) == ("nom", "sg"))

    def test_marks_of_attributes_that_the_category_has_not(self):
        for num in ("", "sg", "pl"):
            self.check(("q", "ab", (num, "acc")), "ab", ("c", ("acc",)), True)
            self.check(("q", "ab", (num, "acc")), "ab", ("c", ("nom",)), False)
            self.check(("r", "ab", (num, "acc")), "ab", ("s", ()), True)

    def test_a_text_that_is_not_the_form(self):
        for text in ("", "a", "abb", "ba", "b"):
            self.check(("q", text, ("", "")), "ab", ("c", ("nom",)), False)
        self.check(("q", "", ("", "")), "a", ("c", ("nom",)), False)

    def test_no_end(self):
        self.check(("q", "a", ("", "")), "a", ("s", ()), False)
        self.check(("r", "a", ("", "")), "a", ("c", ("nom",)), False)
        self.check(("nowhere", "a", ("", "")), "a", ("s", ()), False)

    def test_all_stages_against_the_document(self):
        chance = random.Random(17)
        for _ in range(60):
            given = some_grammar(chance)
            form = "".join(chance.choice("aab") for _ in range(chance.randrange(1, 5)))
            for stage, _ in stages(given, form):
                for label in every_label(given):
                    wanted = (stage[1] == form and (stage[0], label[0]) in given.ends()
                              and plain_agrees(given, label, stage[2]))
                    self.assertIs(is_complete(given, stage, form, label), wanted)


class RowsOf(unittest.TestCase):
    def check(self, given, form, wanted):
        with self.subTest(form=form, grammar=content(given)):
            found = rows_of(given, form)
            self.assertEqual(found, wanted)
            self.assertIs(type(found), list)

    def test_ascending_order_as_tuples(self):
        given = loop(["ab", "a", "b", "a"])
        self.check(given, "ab", [(0,), (1, 2), (3, 2)])
        self.check(given, "aab", [(1, 0), (1, 1, 2), (1, 3, 2), (3, 0), (3, 1, 2), (3, 3, 2)])
        given = loop([letter * 2 for letter in "abcdefghijkl"] + list("abcdefghijkl"))
        self.check(given, "kk", [(10,), (22, 22)])

    def test_rows_of_several_stages(self):
        given = make([("n", ("x", "y"))], [("s", ()), ("t", ("n",))], [],
                     [morph("a", "k", ("n", "y")), morph("a", "m"), morph("a", "k", ("n", "x")), morph("a", "h")],
                     [("q", "k", "z"), ("q", "m", "b"), ("q", "h", "c")], [("z", "s"), ("b", "t"), ("b", "s")], first="q")
        self.check(given, "a", [(0,), (1,), (2,)])

    def test_a_row_without_a_label(self):
        given = make([("n", ("x", "y"))], [("s", ()), ("t", ())], [],
                     [morph("ab", "m"), morph("a", "k", ("n", "x")), morph("b", "k", ("n", "y")), morph("b"),
                      morph("ab", "none"), morph("ab")],
                     [("q", "m", "p"), ("q", "k", "q")], [("q", "s"), ("r", "t")], first="q")
        self.assertEqual([row for row in plain_rows(given, 2) if plain_text(given, row) == "ab"],
                         [(0,), (4,), (5,), (1, 2), (1, 3)])
        self.check(given, "ab", [(1, 3), (5,)])

    def test_no_first_state_and_no_rows(self):
        given = make([], [("s", ())], [], [morph("a")], [("q", "k", "q")], [("q", "s")])
        self.check(given, "a", [])
        self.check(loop(["a"]), "b", [])
        self.check(loop(["aa"]), "aaa", [])
        self.check(loop(["a"], ends=()), "a", [])
        self.check(Grammar(), "a", [])

    def test_seams(self):
        given = loop(["city", "s", "cit", "ies"], [("y", "s", "ies")])
        self.check(given, "cities", [(0, 1), (2, 3)])
        self.check(given, "citys", [])

    def test_seams_one_upon_another(self):
        given = loop(["a", "bcc", "ccx"], [("a", "b", "x"), ("xcc", "cc", "aaaa")])
        found = [row for row in plain_rows(given, 5) if plain_text(given, row) == "aaaax"]
        self.assertIn((0, 1, 2), found)
        self.check(given, "aaaax", sorted(found))

    def test_many_rows(self):
        given = loop(["a", "aa"])
        found = rows_of(given, "a" * 18)
        self.assertEqual(len(found), 4181)
        self.assertEqual(found, sorted(set(found)))
        self.assertEqual((found[0], found[-1]), ((0,) * 18, (1,) * 9))

    def test_a_long_row_among_stages_that_lead_nowhere(self):
        given = make([], [("s", ())], [], [morph("a"), morph("a"), morph("a", "m")],
                     [("q", "k", "p"), ("p", "k", "p"), ("q", "m", "r"), ("r", "m", "r")], [("r", "s")], first="q")
        self.check(given, "a" * 1200, [(2,) * 1200])

    def test_all_rows_and_no_others(self):
        chance = random.Random(19)
        several = 0
        for _ in range(150):
            given = some_grammar(chance)
            # Each morph adds at least one letter, so longer rows have longer texts.
            rows = [row for row in plain_rows(given, 4) if plain_labels(given, row)]
            for form in {plain_text(given, row) for row in rows if len(plain_text(given, row)) < 5} | {"a", "ab", "aab"}:
                wanted = sorted(row for row in rows if plain_text(given, row) == form)
                several += len(wanted) > 1
                self.check(given, form, wanted)
        self.assertGreater(several, 100)

    def test_the_list_is_a_new_one(self):
        given = loop(["a"])
        kept = content(given)
        rows_of(given, "a").clear()
        self.check(given, "a", [(0,)])
        self.assertEqual(content(given), kept)


if __name__ == "__main__":
    unittest.main()
