"""Tests of readingsall.ranking (points 2, 6, 12, 13, 15, 16, 19 and 21 to 23)."""

import copy
import random
import unittest
from itertools import islice

from helpers import content, make
from plain import every_label
from plain_readings import PlainOrder, PlainReadings, label_of, plain_cost, plain_table, some_language, some_words
from readingsall.derivations import is_reading
from readingsall.errors import NoReading
from readingsall.grammar import Grammar
from readingsall.ranking import Ranking

S, T = ("s", ()), ("t", ())


def n(num):
    return ("n", (num,))


def rule(pattern, *parts, cost=0):
    return (pattern, parts, cost, ())


def morph(text, kind="k", *marks, cost=0):
    return (text, kind, marks, cost, "")


def node(number, label, *children):
    return [("rule", number, label), *[one for child in children for one in child]]


def leaf(label, *row):
    return [("word", label, row)]


def loop(morphs, rules=(), categories=(("s", ()), ("t", ())), ends=(("q", "s"), ("q", "t")), seams=(), start="s"):
    """A grammar with one state, in which any row of its morphs has the labels of the ends."""
    return make([], categories, rules, morphs, [("q", "k", "q")], ends, seams, start, "q")


class RankingTest(unittest.TestCase):
    def check(self, given, words, readings):
        """Check all that the ranking tells; the readings are all of them in order."""
        with self.subTest(words=words, grammar=content(given)):
            kept = (content(given), list(words))
            ranking = Ranking(given, words)
            self.check_told(ranking, given, words, readings)
            self.assertEqual((content(given), words), kept)

    def check_told(self, ranking, given, words, readings):
        self.assertEqual(list(ranking.readings(0)), readings)
        self.assertEqual(ranking.reading_count, len(readings))
        self.assertIs(type(ranking.reading_count), int)
        costs = [plain_cost(given, one) for one in readings]
        self.assertEqual(ranking.by_cost(), [(cost, costs.count(cost)) for cost in sorted(set(costs))])
        self.assertEqual([ranking.reading(number) for number in range(len(readings))], readings)
        self.assertEqual([ranking.number(one) for one in readings], list(range(len(readings))))
        self.assertEqual(ranking.table(), plain_table(given, words))
        for start in (1, len(readings) // 2, len(readings), len(readings) + 1, 10 ** 30):
            self.assertEqual(list(ranking.readings(start)), readings[start:])
        for number in (-1, -2, -len(readings) - 1, len(readings), len(readings) + 1, 10 ** 30, -10 ** 30):
            with self.assertRaises(NoReading):
                ranking.reading(number)

    def check_all(self, given, words):
        """Check all against the slow order of the document."""
        self.check(given, words, PlainOrder(given, words).sorted(PlainReadings(given).readings(words)))

    def refuse(self, ranking, derivation):
        with self.subTest(derivation=derivation):
            kept = copy.deepcopy(derivation)
            with self.assertRaises(NoReading):
                ranking.number(derivation)
            self.assertEqual(derivation, kept)


class NoReadings(RankingTest):
    def check_none(self, given, words):
        self.check(given, words, [])
        ranking = Ranking(given, words)
        for derivation in ([], leaf(S, 0), leaf(S), leaf(("", ()), 0), leaf(("zz", ("a", "b")), 0),
                           *[node(number, S, leaf(S, 0)) for number in (0, -1, -2, 1, 10 ** 30)]):
            self.refuse(ranking, derivation)

    def test_no_words(self):
        self.check_none(Grammar(), [])
        self.check_none(loop([morph("a")], [rule(T, S, S)]), [])

    def test_no_start_category(self):
        given = loop([morph("a")], start=None)
        self.check_none(given, ["a"])
        self.check_none(given, ["a", "a"])
        given.set_start("s")
        self.check(given, ["a"], [leaf(S, 0)])

    def test_no_first_state(self):
        given = make([], [("s", ())], [rule(S, S, S)], [morph("a")], [("q", "k", "q")], [("q", "s")], [], "s")
        self.check_none(given, ["a"])
        self.check_none(given, ["a", "a"])
        self.check_none(Grammar(), ["a"])

    def test_no_rules(self):
        given = loop([morph("a")])
        self.check_none(given, ["a", "a"])
        self.check_none(given, ["b"])

    def test_other_labels_only(self):
        given = make([], [("s", ()), ("t", ())], [rule(S, T, T, T)], [morph("a")], [("q", "k", "q")], [("q", "t")], [], "s", "q")
        self.check_none(given, ["a"])
        self.check_none(given, ["a", "a"])
        self.check_none(given, ["a", "b", "a"])
        self.check(given, ["a"] * 3, [node(0, S, leaf(T, 0), leaf(T, 0), leaf(T, 0))])


class Order(RankingTest):
    def test_costs(self):
        given = loop([morph("a", cost=3), morph("a", cost=1), morph("a", cost=1000), morph("a")])
        self.check(given, ["a"], [leaf(S, 3), leaf(S, 1), leaf(S, 0), leaf(S, 2)])

    def test_costs_of_rules_and_of_morphs(self):
        given = loop([morph("a", cost=2), morph("a", cost=7)], [rule(S, T, cost=4), rule(S, T, cost=6)])
        self.check(given, ["a"], [leaf(S, 0), node(0, S, leaf(T, 0)), leaf(S, 1), node(1, S, leaf(T, 0)),
                                  node(0, S, leaf(T, 1)), node(1, S, leaf(T, 1))])

    def test_labels_of_one_cost(self):
        given = make([("num", ("sg", "pl", "du"))], [("n", ("num",)), ("s", ())], [], [morph("a"), morph("a", cost=1),
                     morph("a", "k", ("num", "sg"))], [("q", "k", "q")], [("q", "n"), ("q", "s")], [], "n", "q")
        self.check(given, ["a"], [leaf(n("du"), 0), leaf(n("pl"), 0), leaf(n("sg"), 0), leaf(n("sg"), 2),
                                  leaf(n("du"), 1), leaf(n("pl"), 1), leaf(n("sg"), 1)])

    def test_costs_before_labels(self):
        given = make([("num", ("sg", "pl"))], [("n", ("num",))], [],
                     [morph("a", "k", ("num", "pl"), cost=1), morph("a", "k", ("num", "sg"))], [("q", "k", "q")],
                     [("q", "n")], [], "n", "q")
        self.check(given, ["a"], [leaf(n("sg"), 1), leaf(n("pl"), 0)])

    def test_words_before_rules_and_rules_by_number(self):
        given = loop([morph("a")], [rule(S, T)] * 12 + [rule(S, T, cost=1)])
        wanted = [leaf(S, 0), *[node(k, S, leaf(T, 0)) for k in range(13)]]
        self.check(given, ["a"], wanted)

    def test_stages_of_one_label(self):
        # By the stages, whatever the numbers of the morphs are.
        given = make([("num", ("sg", "pl"))], [("s", ())], [],
                     [morph("a", "m"), morph("a", "k", ("num", "sg")), morph("a", "h"), morph("a", "k", ("num", "pl")), morph("a")],
                     [("q", "k", "p"), ("q", "m", "z"), ("q", "h", "b")], [("p", "s"), ("z", "s"), ("b", "s")], [], "s", "q")
        self.check(given, ["a"], [leaf(S, 2), leaf(S, 4), leaf(S, 3), leaf(S, 1), leaf(S, 0)])

    def test_cuts_and_labels(self):
        given = loop([morph("a")], [rule(S, S, S)], ends=[("q", "s")])
        a = leaf(S, 0)
        self.check(given, ["a"] * 3, [node(0, S, a, node(0, S, a, a)), node(0, S, node(0, S, a, a), a)])
        given = make([("num", ("sg", "pl"))], [("n", ("num",)), ("s", ())], [rule(S, n("*"), n("*"))], [morph("a")],
                     [("q", "k", "q")], [("q", "n")], [], "s", "q")
        self.check(given, ["a", "a"], [node(0, S, leaf(n(one), 0), leaf(n(two), 0)) for one in ("pl", "sg")
                                       for two in ("pl", "sg")])

    def test_cuts_before_the_costs_of_children(self):
        # All cost the same; the way decides before the children do.
        given = loop([morph("a"), morph("a", cost=1)], [rule(S, T, T, cost=1), rule(S, T, T)], ends=[("q", "t")])
        a, b = leaf(T, 0), leaf(T, 1)
        self.check(given, ["a", "a"], [node(1, S, a, a), node(0, S, a, a), node(1, S, a, b), node(1, S, b, a),
                                       node(0, S, a, b), node(0, S, b, a), node(1, S, b, b), node(0, S, b, b)])

    def test_the_first_child_in_which_they_differ(self):
        given = loop([morph("a"), morph("a")], [rule(S, T, T, T)], ends=[("q", "t")])
        self.check(given, ["a"] * 3, [node(0, S, leaf(T, one), leaf(T, two), leaf(T, three))
                                      for one in (0, 1) for two in (0, 1) for three in (0, 1)])

    def test_the_cost_of_the_first_child_comes_first(self):
        given = loop([morph("a", cost=1), morph("a")], [rule(S, T, T)], ends=[("q", "t")])
        zero, one = leaf(T, 1), leaf(T, 0)
        self.check(given, ["a", "a"], [node(0, S, zero, zero), node(0, S, zero, one), node(0, S, one, zero),
                                       node(0, S, one, one)])


class Rows(RankingTest):
    """The order of the rows to one stage (point 21)."""

    def test_the_lesser_cost(self):
        given = loop([morph("a", cost=2), morph("aa", cost=5), morph("a")])
        self.check(given, ["aa"], [leaf(S, 2, 2), leaf(S, 2, 0), leaf(S, 0, 2), leaf(S, 0, 0), leaf(S, 1)])

    def test_the_way_that_stands_first(self):
        # By the number of the last morph, not by that of the first one.
        given = loop([morph("b"), morph("a"), morph("ab"), morph("a"), morph("b")])
        self.check(given, ["ab"], [leaf(S, 1, 0), leaf(S, 3, 0), leaf(S, 2), leaf(S, 1, 4), leaf(S, 3, 4)])

    def test_numbers_of_one_and_of_two_digits(self):
        given = loop([morph("a")] * 12)
        self.check(given, ["a"], [leaf(S, k) for k in range(12)])
        self.check(given, ["aa"], [leaf(S, one, two) for two in range(12) for one in range(12)])

    def test_rules_with_numbers_of_two_digits(self):
        given = loop([morph("a")], [rule(S, T, T)] * 12, ends=[("q", "t")])
        self.check(given, ["a", "a"], [node(k, S, leaf(T, 0), leaf(T, 0)) for k in range(12)])

    def test_earlier_stages_of_one_number(self):
        # The last morph is the same; the earlier stages differ by their texts.
        given = loop([morph("xb"), morph("xa"), morph("cdefg")], seams=[("a", "c", "y"), ("b", "c", "y")])
        self.check(given, ["xydefg"], [leaf(S, 1, 2), leaf(S, 0, 2)])

    def test_the_rows_to_the_earlier_stages(self):
        given = loop([morph("a"), morph("a", cost=1)])
        rows = [(0, 0, 0), (1, 0, 0), (0, 1, 0), (0, 0, 1), (1, 1, 0), (1, 0, 1), (0, 1, 1), (1, 1, 1)]
        self.check(given, ["aaa"], [leaf(S, *row) for row in rows])

    def test_rows_of_several_stages(self):
        # First the stage, then the row to it; but the cost before both.
        given = make([], [("s", ())], [], [morph("a"), morph("a", "m"), morph("a", "m"), morph("a", cost=1)],
                     [("q", "k", "z"), ("q", "m", "b")], [("z", "s"), ("b", "s")], [], "s", "q")
        self.check(given, ["a"], [leaf(S, 1), leaf(S, 2), leaf(S, 0), leaf(S, 3)])


class Numbers(RankingTest):
    def setUp(self):
        self.given = make([("num", ("sg", "pl"))], [("s", ()), ("n", ("num",)), ("t", ())],
                          [rule(S, n("?x"), n("?x"), cost=1), rule(S, n("?x"), S), rule(T, S), rule(S, T, n("pl")), rule(n("*"), T, T)],
                          [morph("a"), morph("b", "k", ("num", "pl"), cost=2), morph("ab", "m"), morph("s", "m", cost=1)],
                          [("q", "k", "r"), ("q", "m", "r"), ("r", "m", "p")], [("r", "n"), ("p", "n")], [], "s", "q")
        self.words = ["a", "b", "ab", "as"]
        self.ranking = Ranking(self.given, self.words)

    def test_there_are_some(self):
        self.assertGreater(self.ranking.reading_count, 5)
        self.check_all(self.given, self.words)

    def test_everything_else(self):
        self.refuse(self.ranking, [])
        for reading in self.ranking.readings(0):
            for k in range(len(reading)):
                self.refuse(self.ranking, reading[:k] + reading[k + 1:])
                self.refuse(self.ranking, reading[:k])
                self.refuse(self.ranking, reading[k + 1:])
                self.refuse(self.ranking, reading[:k] + [reading[k]] + reading[k:])
            self.refuse(self.ranking, reading + reading)
            self.refuse(self.ranking, reading[::-1])
            self.refuse(self.ranking, [("rule", 2, T), *reading])
            self.refuse(self.ranking, reading + leaf(n("pl"), 1))

    def test_numbers_labels_and_rows(self):
        labels = [*every_label(self.given), ("zz", ()), ("", ()), ("n", ()), ("n", ("pl", "pl")), ("n", ("pl",) * 40),
                  ("n", ("*",)), ("s", ("pl",))]
        for reading in self.ranking.readings(0):
            for k, one in enumerate(reading):
                rows = [(), (0,), (-1,), (-4,), (4,), (10 ** 30,), (0, 3), (1, 3), (2, 3), (3, 3), (0, -1), (0, 99), (3, 0)]
                changes = [("rule", number, one[-1]) for number in (*range(7), -1, -5, 10 ** 30)] if one[0] == "rule" else [
                    ("word", one[1], row) for row in rows]
                changes += [("rule", one[1], label) if one[0] == "rule" else ("word", label, one[2]) for label in labels]
                changes += [("word", S, (0,)), ("rule", 0, S), ("rule", 4, n("pl"))]
                for change in changes:
                    other = reading[:k] + [change] + reading[k + 1:]
                    with self.subTest(derivation=other):
                        if is_reading(self.given, self.words, other):
                            self.assertEqual(self.ranking.reading(self.ranking.number(other)), other)
                        else:
                            self.refuse(self.ranking, other)

    def test_readings_of_other_words(self):
        every = [["a"], ["b", "b"], ["a", "b"], ["a", "b", "ab"], ["a", "b", "ab", "as", "a"], ["as", "ab", "b", "a"], []]
        for words in every:
            for reading in islice(Ranking(self.given, words).readings(0), 30):
                self.refuse(self.ranking, reading)
                self.assertIs(is_reading(self.given, self.words, reading), False)

    def test_derivations_of_other_labels(self):
        plain = PlainReadings(self.given)
        for label in every_label(self.given):
            for derivation in plain.derivations(self.words, label)[:50]:
                if label == S:
                    self.assertEqual(self.ranking.reading(self.ranking.number(derivation)), derivation)
                else:
                    self.refuse(self.ranking, derivation)

    def test_more_word_nodes_than_words(self):
        given = loop([morph("a")], [rule(S, S, S)])
        one = Ranking(given, ["a"])
        for derivation in (node(0, S, leaf(S, 0), leaf(S, 0)), leaf(S, 0) * 2, leaf(S, 0) * 3):
            self.refuse(one, derivation)
        two = Ranking(given, ["a", "a"])
        for derivation in (leaf(S, 0), node(0, S, leaf(S, 0), node(0, S, leaf(S, 0), leaf(S, 0))), leaf(S, 0) * 2):
            self.refuse(two, derivation)
        self.assertEqual(two.number(node(0, S, leaf(S, 0), leaf(S, 0))), 0)

    def test_rows_that_do_not_belong_to_the_word(self):
        given = loop([morph("a"), morph("b"), morph("ab")])
        ranking = Ranking(given, ["ab"])
        self.assertEqual([ranking.number(leaf(S, 0, 1)), ranking.number(leaf(S, 2))], [0, 1])
        for row in ((0,), (1,), (0, 0), (1, 0), (0, 1, 0), (2, 1), (0, 2), (), (3,), (-1,), (0, -2)):
            self.refuse(ranking, leaf(S, *row))

    def test_the_ranking_stays_as_it_is(self):
        wanted = list(self.ranking.readings(0))
        for _ in range(2):
            self.refuse(self.ranking, [])
            self.refuse(self.ranking, leaf(S, 0))
            for number in (-1, len(wanted)):
                with self.assertRaises(NoReading):
                    self.ranking.reading(number)
            self.assertEqual(list(self.ranking.readings(0)), wanted)


class LaterChanges(RankingTest):
    def told(self, ranking):
        readings = list(ranking.readings(0))
        return (ranking.reading_count, ranking.by_cost(), readings, [ranking.number(one) for one in readings], ranking.table())

    def test_the_grammar_grows(self):
        given = make([], [("s", ()), ("t", ())], [rule(S, S, S, cost=1)], [morph("a", cost=1), morph("aa")], [("q", "k", "q")],
                     [("q", "s")], [], "s", "q")
        words = ["a", "aa", "a"]
        ranking, late = Ranking(given, words), Ranking(given, words)
        wanted = self.told(ranking)
        given.add_attribute("num", ["sg", "pl"])
        given.add_category("u", ["num"])
        given.add_rule(S, (S, T), cost=5)
        given.add_rule(S, (T,))
        given.add_morph("a", "k")
        given.add_morph("a", "m", marks=(("num", "pl"),))
        given.add_arc("q", "m", "p")
        given.add_end("p", "s")
        given.add_end("q", "t")
        given.add_seam("b", "b", "bb")
        self.assertEqual(self.told(ranking), wanted)
        # What was not asked for before is the same, too.
        self.assertEqual(self.told(late), wanted)
        self.refuse(ranking, node(0, S, leaf(S, 2), node(0, S, leaf(S, 1), leaf(S, 0))))
        self.refuse(ranking, node(1, S, node(0, S, leaf(S, 0), leaf(S, 1)), leaf(T, 0)))
        grown = self.told(Ranking(given, words))
        self.assertGreater(grown[0], wanted[0])
        given.set_first("p")
        given.set_start("t")
        self.assertEqual(self.told(ranking), wanted)
        self.assertEqual(self.told(late), wanted)
        self.assertEqual(Ranking(given, words).reading_count, 0)

    def test_the_words_are_changed(self):
        given, words = loop([morph("a"), morph("b")], [rule(S, S, S)]), ["a", "b", "a"]
        ranking, wanted = Ranking(given, words), self.told(Ranking(given, words))
        words[0] = "b"
        self.assertEqual(self.told(ranking), wanted)
        words.clear()
        self.assertEqual(self.told(ranking), wanted)

    def test_lists_that_were_returned_are_changed(self):
        given = loop([morph("a"), morph("a", cost=1)], [rule(S, S, S)])
        ranking = Ranking(given, ["a", "a", "a"])
        wanted = copy.deepcopy(self.told(ranking))
        for _ in range(2):
            ranking.by_cost().clear()
            ranking.reading(0).append("more")
            ranking.reading(3).clear()
            for reading in ranking.readings(0):
                reading.reverse()
                reading.pop()
            stage_lists, cells = ranking.table()
            for stage_list in stage_lists:
                for _, ways in stage_list:
                    ways.append("more")
                stage_list.reverse()
            for cell in cells:
                cell[3].clear()
            stage_lists.clear()
            cells.pop()
            self.assertEqual(self.told(ranking), wanted)

    def test_no_two_lists_of_the_table_are_the_same(self):
        ranking = Ranking(loop([morph("a")], [rule(S, S, S)]), ["a"] * 3)
        for pair in (ranking.table(), ranking.table()):
            lists = list(pair) + pair[0] + [ways for one in pair[0] for _, ways in one] + [cell[3] for cell in pair[1]]
            self.assertEqual(len({id(one) for one in lists}), len(lists))

    def test_readings_is_a_generator(self):
        given = loop([morph("a"), morph("a"), morph("a")])
        ranking = Ranking(given, ["a"])
        one, other = ranking.readings(1), ranking.readings(0)
        self.assertEqual([next(one), next(other), next(one)], [leaf(S, 1), leaf(S, 0), leaf(S, 2)])
        given.add_morph("a", "k")
        self.assertEqual(list(one), [])
        self.assertIs(iter(other), other)
        self.assertEqual(list(other), [leaf(S, 1), leaf(S, 2)])
        self.assertEqual(len({id(reading) for reading in list(ranking.readings(0))}), 3)

    def test_reading_count_cannot_be_set(self):
        ranking = Ranking(loop([morph("a")]), ["a"])
        with self.assertRaises(AttributeError):
            ranking.reading_count = 3
        self.assertEqual(ranking.reading_count, 1)


class Whole(RankingTest):
    def test_against_the_document(self):
        chance = random.Random(61)
        seen = several = 0
        while seen < 200:
            given = some_language(chance)
            words = some_words(chance, given)
            if Ranking(given, words).reading_count <= 120:
                seen += 1
                several += Ranking(given, words).reading_count > 5
                self.check_all(given, words)
        self.assertGreater(several, 25)

    def test_costs_of_all_sizes(self):
        chance = random.Random(67)
        seen = 0
        while seen < 40:
            given = some_language(chance, (0, 1000, 1, 999, 10))
            words = some_words(chance, given, 3)
            if 3 <= Ranking(given, words).reading_count <= 60:
                seen += 1
                self.check_all(given, words)

    def test_counting_without_listing(self):
        given = loop([morph("a"), morph("a", cost=1)], [rule(S, S, S)], ends=[("q", "s")])
        ranking = Ranking(given, ["a"] * 25)
        catalan = 1289904147324
        self.assertEqual(ranking.reading_count, catalan * 2 ** 25)
        self.assertEqual(ranking.by_cost()[0], (0, catalan))
        self.assertEqual(ranking.by_cost()[1], (1, 25 * catalan))
        self.assertEqual(len(ranking.by_cost()), 26)
        for number in (0, 1, catalan, catalan * 2 ** 24, catalan * 2 ** 25 - 1):
            reading = ranking.reading(number)
            self.assertTrue(is_reading(given, ["a"] * 25, reading))
            self.assertEqual(ranking.number(reading), number)
            self.assertEqual(next(ranking.readings(number)), reading)
        with self.assertRaises(NoReading):
            ranking.reading(catalan * 2 ** 25)
        self.assertEqual(len(list(ranking.readings(catalan * 2 ** 25 - 4))), 4)

    def test_neighbours_of_very_many_readings(self):
        """Where the readings cannot be listed: each one and the next one stand in order."""
        chance = random.Random(71)
        given = make([("num", ("sg", "pl"))], [("s", ()), ("n", ("num",))],
                     [rule(S, n("?x"), n("?x"), cost=1), rule(n("*"), S, S), rule(n("?x"), n("?x"), n("*")), rule(S, n("pl"), S, n("sg"))],
                     [morph("a", cost=2), morph("b"), morph("a", "k", ("num", "pl")), morph("ab", cost=1)],
                     [("q", "k", "q")], [("q", "n"), ("q", "s")], [], "s", "q")
        words = ["a", "ab", "a", "ab", "aa"]
        ranking, order = Ranking(given, words), PlainOrder(given, words)
        self.assertGreater(ranking.reading_count, 10 ** 4)
        for _ in range(60):
            number = chance.randrange(ranking.reading_count - 1)
            one, other = ranking.reading(number), ranking.reading(number + 1)
            self.assertLess(order.readings(one, other), 0)
            self.assertEqual([ranking.number(one), ranking.number(other)], [number, number + 1])
            self.assertTrue(is_reading(given, words, one))

    def test_words_with_a_power_of_two_of_rows(self):
        given = loop([morph("a"), morph("a")])
        for many in (10, 60, 300):
            ranking = Ranking(given, ["a" * many])
            self.assertEqual(ranking.reading_count, 2 ** many)
            self.assertEqual(ranking.by_cost(), [(0, 2 ** many)])
            self.assertEqual(ranking.reading(0), leaf(S, *[0] * many))
            self.assertEqual(ranking.reading(1), leaf(S, 1, *[0] * (many - 1)))
            self.assertEqual(ranking.reading(2 ** many - 1), leaf(S, *[1] * many))
            number = 2 ** many // 3
            row = [number >> k & 1 for k in range(many)]
            self.assertEqual(ranking.reading(number), leaf(S, *row))
            self.assertEqual(ranking.number(leaf(S, *row)), number)
        ranking = Ranking(loop([morph("a"), morph("a")], [rule(S, S, S)]), ["a" * 10] * 8)
        self.assertEqual(ranking.reading_count, 429 * 2 ** 80)

    def test_long_texts(self):
        given = make([], [("s", ()), ("t", ())], [rule(S, T, S, cost=1), rule(S, T)], [morph("a"), morph("a", cost=1)],
                     [("q", "k", "r")], [("r", "t")], [], "s", "q")
        many = 120
        ranking = Ranking(given, ["a"] * many)
        self.assertEqual(ranking.reading_count, 2 ** many)
        first = [("rule", 0, S), ("word", T, (0,))] * (many - 1) + [("rule", 1, S), ("word", T, (0,))]
        self.assertEqual(ranking.reading(0), first)
        last = [("rule", 0, S), ("word", T, (1,))] * (many - 1) + [("rule", 1, S), ("word", T, (1,))]
        self.assertEqual(ranking.number(last), 2 ** many - 1)
        self.assertEqual(ranking.by_cost()[:2], [(many - 1, 1), (many, many)])

    def test_all_readings_have_different_numbers(self):
        chance = random.Random(73)
        for _ in range(40):
            given = some_language(chance)
            words = some_words(chance, given)
            ranking = Ranking(given, words)
            found = list(islice(ranking.readings(0), 300))
            self.assertEqual([ranking.number(reading) for reading in found], list(range(len(found))))
            for reading in found:
                self.assertTrue(is_reading(given, words, reading))
                self.assertIn(label_of(reading), every_label(given))


if __name__ == "__main__":
    unittest.main()
