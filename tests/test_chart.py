"""Tests of readingsall.chart (points 6, 13, 17, 18 and 19)."""

import copy
import random
import unittest

from helpers import content, make
from plain import every_label, plainly_fits
from plain_readings import plain_table, some_language, some_words
from readingsall.chart import table
from readingsall.grammar import Grammar
from readingsall.stages import is_complete, stages

S, T, U = ("s", ()), ("t", ()), ("u", ())


def n(num):
    return ("n", (num,))


def np(num, case):
    return ("np", (num, case))


def rule(pattern, *parts):
    return (pattern, parts, 0, ())


def morph(text, kind="k", *marks):
    return (text, kind, marks, 0, "")


def lexicon(words, rules, attributes=(), categories=(("s", ()), ("t", ()), ("u", ())), start="s"):
    """A grammar in which each pair of a word and a category is a morph that leads to a state of its own."""
    arcs = [("begin", f"k{category}", f"e{category}") for category, _ in categories]
    ends = [(f"e{category}", category) for category, _ in categories]
    morphs = [morph(word, f"k{category}") for word, category in words]
    return make(attributes, categories, rules, morphs, arcs, ends, [], start, "begin")


def stage_of(category, word, marks=()):
    return (f"e{category}", word, marks)


def word_way(category, word, marks=()):
    return ("word", stage_of(category, word, marks))


class TableTest(unittest.TestCase):
    def check(self, given, words, wanted):
        """Check the cells that are wanted, and the whole against the document."""
        with self.subTest(words=words, grammar=content(given)):
            found = table(given, words)
            self.assertEqual(found[1], wanted)
            self.assertEqual(found, plain_table(given, words))
            self.check_kinds(found)

    def check_kinds(self, found):
        self.assertIs(type(found), tuple)
        self.assertEqual(len(found), 2)
        self.assertEqual([type(one) for one in found], [list, list])
        for stage_list in found[0]:
            self.assertIs(type(stage_list), list)
            for row in stage_list:
                self.assertEqual([type(one) for one in (row, *row)], [tuple, tuple, list])
        for cell in found[1]:
            self.assertEqual([type(one) for one in (cell, *cell)], [tuple, int, int, tuple, list])
            self.assertEqual([type(one) for one in cell[2]], [str, tuple])
            self.assertGreater(len(cell[3]), 0)
            for way in cell[3]:
                kinds = [tuple, str, tuple] if way[0] == "word" else [tuple, str, int, tuple, tuple]
                self.assertEqual([type(one) for one in (way, *way)], kinds)
                if way[0] == "rule":
                    self.assertEqual({type(cut) for cut in way[2]} | {int}, {int})


class Words(TableTest):
    def test_no_words(self):
        self.assertEqual(table(Grammar(), []), ([], []))
        self.assertEqual(table(lexicon([("a", "s")], [rule(S, S, S)]), []), ([], []))

    def test_a_word_without_stages(self):
        given = make([], [("s", ())], [], [morph("a")], [("q", "k", "r")], [("r", "s")], [], "s")
        self.assertEqual(table(given, ["a"]), ([[]], []))
        self.assertEqual(table(given, ["a", "b", "a"]), ([[], [], []], []))
        self.assertEqual(table(Grammar(), ["a"]), ([[]], []))

    def test_a_word_with_stages_and_no_label(self):
        given = lexicon([("a", "s")], [rule(T, S)])
        begin = ("begin", "", ())
        self.assertEqual(table(given, ["b"]), ([[(begin, [])]], []))
        self.assertEqual(table(given, ["ab"]), ([[(begin, []), (stage_of("s", "a"), [(begin, 0)])]], []))
        given = make([], [("s", ())], [], [morph("a")], [("q", "k", "r")], [("p", "s")], [], "s", "q")
        self.assertEqual(table(given, ["a"]), ([[(("q", "", ()), []), (("r", "a", ()), [(("q", "", ()), 0)])]], []))

    def test_one_label(self):
        given = lexicon([("a", "s"), ("b", "t")], [])
        self.check(given, ["a"], [(0, 1, S, [word_way("s", "a")])])
        self.check(given, ["b", "a", "b"], [(0, 1, T, [word_way("t", "b")]), (1, 2, S, [word_way("s", "a")]),
                                            (2, 3, T, [word_way("t", "b")])])
        self.check(given, ["b", "c", "a"], [(0, 1, T, [word_way("t", "b")]), (2, 3, S, [word_way("s", "a")])])

    def test_several_labels_of_one_stage(self):
        given = make([("num", ("sg", "pl", "du")), ("case", ("nom", "acc"))], [("s", ()), ("np", ("num", "case")),
                                                                               ("n", ("num",))], [],
                     [morph("a"), morph("b", "k", ("case", "acc")), morph("c", "k", ("case", "nom"), ("num", "pl"))],
                     [("q", "k", "r")], [("r", "np"), ("r", "n"), ("r", "s")], [], "s", "q")
        plain = [("word", ("r", "a", ("", "")))]
        self.check(given, ["a"], [(0, 1, n(num), plain) for num in ("du", "pl", "sg")]
                   + [(0, 1, np(num, case), plain) for num in ("du", "pl", "sg") for case in ("acc", "nom")]
                   + [(0, 1, S, plain)])
        marked = [("word", ("r", "b", ("", "acc")))]
        self.check(given, ["b"], [(0, 1, n(num), marked) for num in ("du", "pl", "sg")]
                   + [(0, 1, np(num, "acc"), marked) for num in ("du", "pl", "sg")] + [(0, 1, S, marked)])
        marked = [("word", ("r", "c", ("pl", "nom")))]
        self.check(given, ["c"], [(0, 1, n("pl"), marked), (0, 1, np("pl", "nom"), marked), (0, 1, S, marked)])

    def test_several_complete_stages(self):
        given = make([("num", ("sg", "pl"))], [("s", ()), ("n", ("num",))], [],
                     [morph("a"), morph("a", "m", ("num", "pl")), morph("a", "k", ("num", "sg")), morph("a", "h")],
                     [("q", "k", "r"), ("q", "m", "p"), ("q", "h", "z")],
                     [("r", "n"), ("p", "n"), ("p", "s"), ("z", "n")], [], "s", "q")
        by_p, by_r, by_sg, by_z = [("word", stage) for stage in (
            ("p", "a", ("pl",)), ("r", "a", ("",)), ("r", "a", ("sg",)), ("z", "a", ("",)))]
        self.check(given, ["a"], [(0, 1, n("pl"), [by_p, by_r, by_z]), (0, 1, n("sg"), [by_r, by_sg, by_z]),
                                  (0, 1, S, [by_p])])

    def test_words_that_a_seam_has_changed(self):
        given = make([], [("s", ())], [], [morph("city"), morph("s", "m"), morph("cities", "h")],
                     [("q", "k", "r"), ("r", "m", "p"), ("q", "h", "t")], [("r", "s"), ("p", "s"), ("t", "s")],
                     [("y", "s", "ies")], "s", "q")
        self.check(given, ["cities"], [(0, 1, S, [("word", ("p", "cities", ())), ("word", ("t", "cities", ()))])])
        self.check(given, ["citys"], [])

    def test_the_stage_lists_are_those_of_the_words(self):
        given = lexicon([("a", "s"), ("ab", "t"), ("b", "u")], [rule(S, S, S)])
        words = ["ab", "a", "c", "ab"]
        self.assertEqual(table(given, words)[0], [stages(given, word) for word in words])


class Rules(TableTest):
    def test_unit_rules_one_after_another(self):
        categories = [(f"c{k}", ()) for k in range(6)]
        rules = [rule((f"c{k}", ()), (f"c{k + 1}", ())) for k in range(5)]
        for order in (1, -1):
            given = lexicon([("a", "c5")], rules[::order], (), categories, "c0")
            numbers = range(5)[::order]
            wanted = [(0, 1, (f"c{k}", ()), [("rule", numbers[k], (), ((f"c{k + 1}", ()),))]) for k in range(5)]
            self.check(given, ["a"], wanted + [(0, 1, ("c5", ()), [word_way("c5", "a")])])

    def test_unit_rules_that_part_and_meet(self):
        # From u to s by t, by v, and straight; one of them over several words.
        given = lexicon([("a", "u"), ("a", "t"), ("b", "v")],
                        [rule(S, U), rule(S, T), rule(T, U), rule(S, ("v", ())), rule(("v", ()), U), rule(U, U, ("v", ()))],
                        (), (("s", ()), ("t", ()), ("u", ()), ("v", ())))
        v = ("v", ())
        self.check(given, ["a"], [
            (0, 1, S, [("rule", 0, (), (U,)), ("rule", 1, (), (T,)), ("rule", 3, (), (v,))]),
            (0, 1, T, [word_way("t", "a"), ("rule", 2, (), (U,))]),
            (0, 1, U, [word_way("u", "a")]),
            (0, 1, v, [("rule", 4, (), (U,))]),
        ])
        found = table(given, ["a", "b"])
        self.assertEqual([cell for cell in found[1] if cell[:2] == (0, 2)], [
            (0, 2, S, [("rule", 0, (), (U,)), ("rule", 1, (), (T,)), ("rule", 3, (), (v,))]),
            (0, 2, T, [("rule", 2, (), (U,))]),
            (0, 2, U, [("rule", 5, (1,), (U, v))]),
            (0, 2, v, [("rule", 4, (), (U,))]),
        ])

    def test_two_parts(self):
        given = lexicon([("a", "t")], [rule(S, T, T), rule(S, S, T)])
        leaf = [word_way("t", "a")]
        self.check(given, ["a"] * 3, [
            (0, 1, T, leaf), (0, 2, S, [("rule", 0, (1,), (T, T))]), (0, 3, S, [("rule", 1, (2,), (S, T))]),
            (1, 2, T, leaf), (1, 3, S, [("rule", 0, (2,), (T, T))]), (2, 3, T, leaf),
        ])

    def test_three_and_four_parts_over_several_borders(self):
        given = lexicon([("a", "s")], [rule(S, S, S, S), rule(T, S, S, S, S), rule(S, S, S)])
        found = {cell[:3]: cell[3] for cell in table(given, ["a"] * 6)[1]}
        self.assertEqual(found[(1, 4, S)], [("rule", 0, (2, 3), (S,) * 3), ("rule", 2, (2,), (S, S)),
                                            ("rule", 2, (3,), (S, S))])
        self.assertEqual(found[(0, 6, T)], [("rule", 1, (one, two, three), (S,) * 4) for one in range(1, 4)
                                            for two in range(one + 1, 5) for three in range(two + 1, 6)])
        self.assertEqual(found[(0, 6, S)], [("rule", 0, (one, two), (S,) * 3) for one in range(1, 5)
                                            for two in range(one + 1, 6)]
                         + [("rule", 2, (one,), (S, S)) for one in range(1, 6)])
        self.assertNotIn((0, 3, T), found)
        self.check(given, ["a"] * 4, table(given, ["a"] * 4)[1])

    def test_parts_that_are_missing(self):
        given = lexicon([("a", "s"), ("b", "t"), ("c", "u")], [rule(U, S, T, S), rule(U, T, U)])
        a, b, c = [word_way("s", "a")], [word_way("t", "b")], [word_way("u", "c")]
        self.check(given, ["a", "b", "a"], [(0, 1, S, a), (0, 3, U, [("rule", 0, (1, 2), (S, T, S))]), (1, 2, T, b),
                                            (2, 3, S, a)])
        self.check(given, ["a", "b", "b"], [(0, 1, S, a), (1, 2, T, b), (2, 3, T, b)])
        self.check(given, ["b", "b", "a"], [(0, 1, T, b), (1, 2, T, b), (2, 3, S, a)])
        self.check(given, ["a", "b"], [(0, 1, S, a), (1, 2, T, b)])
        self.check(given, ["c", "b"], [(0, 1, U, c), (1, 2, T, b)])
        self.check(given, ["b", "c"], [(0, 1, T, b), (0, 2, U, [("rule", 1, (1,), (T, U))]), (1, 2, U, c)])

    def numbers(self, rules):
        """Each of the words a, b and c is a noun with a mark, or any noun at all."""
        return make([("num", ("sg", "pl")), ("case", ("nom", "acc"))], [("s", ()), ("n", ("num",)), ("np", ("num", "case"))],
                    rules, [morph("a", "k", ("num", "sg")), morph("b", "k", ("num", "pl")), morph("c")],
                    [("q", "k", "r")], [("r", "n")], [], "s", "q")

    def cells_of(self, rules, words):
        """The labels of all the words and their ways."""
        given = self.numbers(rules)
        found = table(given, words)
        self.assertEqual(found, plain_table(given, words))
        return [cell[2:] for cell in found[1] if cell[:2] == (0, len(words)) and cell[2][0] != "n"]

    def test_any_value(self):
        cells = self.cells_of([rule(S, n("*"), n("*"))], ["a", "c"])
        self.assertEqual(cells, [(S, [("rule", 0, (1,), (n("sg"), n("pl"))), ("rule", 0, (1,), (n("sg"), n("sg")))])])
        cells = self.cells_of([rule(np("*", "acc"), n("sg"))], ["a"])
        self.assertEqual(cells, [(np(num, "acc"), [("rule", 0, (), (n("sg"),))]) for num in ("pl", "sg")])

    def test_variables(self):
        one = rule(np("?n", "acc"), n("?n"), n("?n"))
        self.assertEqual(self.cells_of([one], ["a", "a"]), [(np("sg", "acc"), [("rule", 0, (1,), (n("sg"), n("sg")))])])
        self.assertEqual(self.cells_of([one], ["a", "b"]), [])
        self.assertEqual(self.cells_of([one], ["a", "c"]), [(np("sg", "acc"), [("rule", 0, (1,), (n("sg"), n("sg")))])])
        self.assertEqual(self.cells_of([one], ["c", "c"]), [
            (np(num, "acc"), [("rule", 0, (1,), (n(num), n(num)))]) for num in ("pl", "sg")])

    def test_a_variable_that_stands_only_in_the_parts(self):
        one = rule(S, n("?x"), n("?x"), n("?y"))
        self.assertEqual(self.cells_of([one], ["a", "c", "b"]), [(S, [("rule", 0, (1, 2), (n("sg"), n("sg"), n("pl")))])])
        self.assertEqual(self.cells_of([one], ["a", "b", "c"]), [])
        self.assertEqual(self.cells_of([one], ["c", "c", "a"]), [
            (S, [("rule", 0, (1, 2), (n(num), n(num), n("sg"))) for num in ("pl", "sg")])])

    def test_a_variable_that_stands_only_on_the_left(self):
        found = self.cells_of([rule(np("?x", "?y"), n("pl"))], ["c"])
        self.assertEqual(found, [(np(num, case), [("rule", 0, (), (n("pl"),))]) for num in ("pl", "sg")
                                 for case in ("acc", "nom")])

    def test_two_rules_and_two_borders_for_one_cell(self):
        given = lexicon([("a", "s"), ("a", "t")], [rule(S, S, T), rule(S, T, S), rule(S, S, T)])
        found = {cell[:3]: cell[3] for cell in table(given, ["a"] * 3)[1]}
        self.assertEqual(found[(0, 3, S)], [
            ("rule", 0, (2,), (S, T)), ("rule", 1, (1,), (T, S)), ("rule", 2, (2,), (S, T))])
        given = lexicon([("a", "s")], [rule(S, S, S), rule(S, S, S)])
        found = {cell[:3]: cell[3] for cell in table(given, ["a"] * 3)[1]}
        self.assertEqual(found[(0, 3, S)], [("rule", k, (cut,), (S, S)) for k in (0, 1) for cut in (1, 2)])

    def test_a_rule_and_a_word_for_one_cell(self):
        given = lexicon([("a", "s"), ("a", "t")], [rule(S, T)])
        self.check(given, ["a"], [(0, 1, S, [word_way("s", "a"), ("rule", 0, (), (T,))]), (0, 1, T, [word_way("t", "a")])])


class Order(TableTest):
    def test_cells_by_first_then_last_then_label(self):
        given = lexicon([("a", "u"), ("a", "s")], [rule(S, S, U), rule(T, U), rule(U, S, U)])
        found = [cell[:3] for cell in table(given, ["a"] * 11)[1]]
        wanted = [(first, last, label) for first in range(11) for last in range(first + 1, 12) for label in (S, T, U)]
        self.assertEqual(found, wanted)

    def test_numbers_of_rules_and_cuts_are_compared_as_integers(self):
        given = lexicon([("a", "s")], [rule(S, S, S)] * 12)
        ways = [cell[3] for cell in table(given, ["a"] * 12)[1] if cell[:2] == (0, 12)][0]
        self.assertEqual(ways, [("rule", number, (cut,), (S, S)) for number in range(12) for cut in range(1, 12)])

    def test_ways_by_number_then_cuts_then_labels(self):
        given = make([("num", ("sg", "pl"))], [("s", ()), ("n", ("num",))],
                     [rule(S, n("*"), n("*")), rule(n("*"), n("*"), n("*"))], [morph("a")], [("q", "k", "r")],
                     [("r", "n")], [], "s", "q")
        pairs = [(n(one), n(two)) for one in ("pl", "sg") for two in ("pl", "sg")]
        wanted = [("rule", 0, (cut,), labels) for cut in (1, 2) for labels in pairs]
        self.assertEqual([cell[3] for cell in table(given, ["a"] * 3)[1] if cell[:3] == (0, 3, S)], [wanted])

    def test_cuts_before_labels(self):
        # By the later cut come the labels that stand first.
        given = lexicon([("a", "u"), ("b", "s")], [rule(T, S, S), rule(T, U, S), rule(S, U), rule(S, S, S), rule(S, U, U)])
        ways = [cell[3] for cell in table(given, ["a", "a", "b"])[1] if cell[:3] == (0, 3, T)][0]
        self.assertEqual(ways, [("rule", 0, (1,), (S, S)), ("rule", 0, (2,), (S, S)), ("rule", 1, (1,), (U, S))])

    def test_ways_with_words_come_first_by_their_stages(self):
        given = make([("num", ("sg", "pl"))], [("s", ()), ("t", ())], [rule(S, T), rule(S, T)],
                     [morph("a", "k", ("num", "sg")), morph("a", "k", ("num", "pl")), morph("a", "m"), morph("a", "h")],
                     [("q", "k", "x"), ("q", "m", "z"), ("q", "h", "b")],
                     [("z", "s"), ("x", "s"), ("b", "s"), ("b", "t")], [], "s", "q")
        found = {cell[:3]: cell[3] for cell in table(given, ["a"])[1]}
        self.assertEqual(found[(0, 1, S)], [
            ("word", ("b", "a", ("",))), ("word", ("x", "a", ("pl",))), ("word", ("x", "a", ("sg",))),
            ("word", ("z", "a", ("",))), ("rule", 0, (), (T,)), ("rule", 1, (), (T,))])


class Whole(TableTest):
    def test_against_the_document(self):
        chance = random.Random(31)
        several = 0
        for _ in range(150):
            given = some_language(chance)
            words = some_words(chance, given)
            found = table(given, words)
            several += max([len(cell[3]) for cell in found[1]], default=0) > 1
            self.check(given, words, plain_table(given, words)[1])
        self.assertGreater(several, 60)

    def test_each_way_holds_and_its_cells_are_there(self):
        chance = random.Random(37)
        for _ in range(60):
            given = some_language(chance)
            words = some_words(chance, given, 6)
            stage_lists, cells = table(given, words)
            there = {cell[:3] for cell in cells}
            for first, last, label, ways in cells:
                self.assertIn(label, every_label(given))
                self.assertEqual(len(ways), len(set(ways)))
                for way in ways:
                    if way[0] == "word":
                        self.assertEqual(last, first + 1)
                        self.assertIn(way[1], dict(stage_lists[first]))
                        self.assertTrue(is_complete(given, way[1], words[first], label))
                    else:
                        ends = (first, *way[2], last)
                        self.assertTrue(plainly_fits(given.rules()[way[1]], label, way[3]))
                        self.assertEqual(len(ends), len(way[3]) + 1)
                        for low, high, one in zip(ends, ends[1:], way[3]):
                            self.assertLess(low, high)
                            self.assertIn((low, high, one), there)

    def test_many_words(self):
        given = lexicon([("a", "t"), ("b", "u")], [rule(S, T, S), rule(S, U)])
        found = table(given, ["a"] * 150 + ["b"])[1]
        self.assertEqual(len(found), 150 + 1 + 151)
        self.assertIn((0, 151, S, [("rule", 0, (1,), (T, S))]), found)
        given = lexicon([("a", "t"), ("b", "u")], [rule(S, S, T), rule(S, U)])
        found = table(given, ["b"] + ["a"] * 150)[1]
        self.assertIn((0, 151, S, [("rule", 0, (150,), (S, T))]), found)

    def test_long_words(self):
        given = make([], [("s", ())], [], [morph("a")], [("q", "k", "q")], [("q", "s")], [], "s", "q")
        stage_lists, cells = table(given, ["a" * 700])
        self.assertEqual(len(stage_lists[0]), 701)
        self.assertEqual(cells, [(0, 1, S, [("word", ("q", "a" * 700, ()))])])

    def test_later_changes_of_what_was_returned_and_passed(self):
        given = lexicon([("a", "s"), ("a", "t"), ("b", "s")], [rule(S, S, S), rule(T, S)])
        words = ["a", "b", "a"]
        kept, wanted = content(given), copy.deepcopy(table(given, words))
        found = table(given, words)
        for stage_list in found[0]:
            for _, ways in stage_list:
                ways.clear()
            stage_list.pop()
        for cell in found[1]:
            cell[3].append("more")
        found[0].clear()
        found[1].reverse()
        self.assertEqual(table(given, words), wanted)
        self.assertEqual(words, ["a", "b", "a"])
        self.assertEqual(content(given), kept)
        words.clear()
        self.assertEqual(table(given, ["a", "b", "a"]), wanted)

    def test_no_two_lists_are_the_same_list(self):
        given = lexicon([("a", "s"), ("a", "t")], [rule(S, S, S), rule(T, S), rule(U, S)])
        stage_lists, cells = table(given, ["a"] * 4)
        lists = stage_lists + [ways for one in stage_lists for _, ways in one] + [cell[3] for cell in cells]
        self.assertEqual(len({id(one) for one in lists}), len(lists))


if __name__ == "__main__":
    unittest.main()
