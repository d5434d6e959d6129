"""Tests of readingsall.derivations (points 4, 6 and 12 to 16)."""

import copy
import random
import unittest
from itertools import product

from helpers import content, make
from plain import every_label
from plain_readings import PlainReadings, label_of, plain_cost, plain_gloss, some_language, some_words
from readingsall.derivations import cost, derives, gloss, is_reading, words_of
from readingsall.grammar import Grammar

S, T = ("s", ()), ("t", ())
NUMBERS = (-1, -2, -3, -8, 8, 9, 99, 10 ** 30, -10 ** 30)


def n(num):
    return ("n", (num,))


def np(num, case):
    return ("np", (num, case))


def rule(pattern, *parts, cost=0, gloss_row=()):
    return (pattern, parts, cost, gloss_row)


def morph(text, kind="k", *marks, cost=0, gloss=""):
    return (text, kind, marks, cost, gloss)


def node(number, label, *children):
    """The derivation with this rule and with these derivations of the children."""
    return [("rule", number, label), *[one for child in children for one in child]]


def leaf(label, *row):
    return [("word", label, row)]


def ordinary():
    return make(
        [("num", ("sg", "pl")), ("case", ("nom", "acc"))],
        [("s", ()), ("t", ()), ("n", ("num",)), ("np", ("num", "case"))],
        [rule(S, np("?n", "nom"), n("?n"), cost=1, gloss_row=(2, "of", 1)), rule(np("?n", "*"), n("?n"), cost=20),
         rule(T, S, gloss_row=(1, 1)), rule(S, T, T, S, cost=300), rule(n("pl"), n("*"), n("?x"), n("?x"), n("?y")),
         rule(S, n("?x"), n("?x"), gloss_row=(1, 2)), rule(np("?x", "acc"), n("*"))],
        [morph("cat", "noun", cost=1000, gloss="cat"), morph("s", "number", ("num", "pl"), cost=7, gloss="PL"),
         morph("run", "verb", ("num", "pl"), gloss="run"), morph("runs", "verb", ("num", "sg"), cost=40),
         morph("cats", "noun", ("num", "pl"), ("case", "acc"), gloss="many.cats"), morph("city", "noun", gloss="city"),
         morph("on", "other"), morph("cat", "other", gloss="C")],
        [("begin", "noun", "stem"), ("stem", "number", "whole"), ("begin", "verb", "whole"), ("begin", "other", "left")],
        [("stem", "n"), ("whole", "n"), ("whole", "np"), ("left", "t")],
        [("y", "s", "ies")], "s", "begin")


CATS, RUN = leaf(n("pl"), 0, 1), leaf(n("pl"), 2)
NOUN = node(1, np("pl", "nom"), CATS)
READING = node(0, S, NOUN, RUN)


class DerivesTest(unittest.TestCase):
    def setUp(self):
        self.given = ordinary()

    def check(self, words, label, derivation, wanted, given=None):
        given = given or self.given
        with self.subTest(words=words, label=label, derivation=derivation):
            kept = (content(given), copy.deepcopy((words, label, derivation)))
            self.assertIs(derives(given, words, label, derivation), wanted)
            if derivation and label == label_of(derivation):
                self.assertIs(is_reading(given, words, derivation), wanted and label[0] == given.start)
            self.assertEqual((content(given), (words, label, derivation)), kept)

    def refuse(self, words, derivation, given=None):
        """The label of the first node is derived from other words, or by another derivation."""
        label = label_of(derivation) if derivation else S
        self.check(words, label, derivation, False, given)


class Derives(DerivesTest):
    def test_one_node(self):
        self.check(["cats"], n("pl"), CATS, True)
        self.check(["cat"], n("pl"), leaf(n("pl"), 0), True)
        self.check(["cat"], n("sg"), leaf(n("sg"), 0), True)
        self.check(["cities"], n("pl"), leaf(n("pl"), 5, 1), True)
        self.check(["on"], T, leaf(T, 6), True)
        given = make([], [("s", ())], [], [morph("a")], [("q", "k", "r")], [("r", "s")], [], "s", "q")
        self.check(["a"], S, leaf(S, 0), True, given)

    def test_many_nodes(self):
        self.check(["cats", "run"], S, READING, True)
        self.check(["cats"], np("pl", "nom"), NOUN, True)
        self.check(["cats", "run"], T, node(2, T, READING), True)
        whole = node(3, S, leaf(T, 6), node(2, T, READING), READING)
        self.check(["on", "cats", "run", "cats", "run"], S, whole, True)
        four = node(4, n("pl"), leaf(n("sg"), 0), leaf(n("pl"), 0), RUN, leaf(n("sg"), 3))
        self.check(["cat", "cat", "run", "runs"], n("pl"), four, True)

    def test_the_empty_lists(self):
        for words in ([], ["cats"], ["cats", "run"]):
            for label in (S, T, n("pl"), ("zz", ()), ("", ())):
                self.check(words, label, [], False)
        for derivation in (CATS, NOUN, READING, leaf(S), leaf(n("pl"))):
            self.refuse([], derivation)

    def test_a_node_too_few(self):
        whole, words = node(3, S, leaf(T, 6), node(2, T, READING), READING), ["on", "cats", "run", "cats", "run"]
        self.check(words, S, whole, True)
        for k in range(len(whole)):
            self.refuse(words, whole[:k] + whole[k + 1:])
            self.refuse(words, whole[:k])
            self.refuse(words, whole[k + 1:])

    def test_a_node_twice_or_too_many(self):
        whole, words = node(3, S, leaf(T, 6), leaf(T, 7), READING), ["on", "cat", "cats", "run"]
        self.check(words, S, whole, True)
        texts = {(6,): "on", (7,): "cat", (0, 1): "cats", (2,): "run"}
        for k in range(len(whole) + 1):
            for one in whole:
                more = whole[:k] + [one] + whole[k:]
                self.refuse(words, more)
                self.refuse([texts[one[2]] for one in more if one[0] == "word"], more)

    def test_a_node_more_that_makes_another_derivation(self):
        self.check(["cats", "run"], T, [("rule", 2, T), *READING], True)
        self.check(["cats", "run"], S, [("rule", 2, T), *READING], False)
        self.refuse(["cats", "run"], [("rule", 2, T), ("rule", 2, T), *READING])

    def test_two_trees(self):
        self.refuse(["cats", "run", "cats", "run"], READING + READING)
        self.refuse(["cats", "run"], READING + READING)
        self.refuse(["cats", "run", "cats"], READING + CATS)
        self.refuse(["cats", "cats", "run"], CATS + READING)

    def test_another_order(self):
        words = ["cats", "run"]
        for k in range(len(READING) - 1):
            self.refuse(words, READING[:k] + [READING[k + 1], READING[k]] + READING[k + 2:])
        self.refuse(words, READING[::-1])
        self.refuse(words[::-1], READING[::-1])
        self.refuse(["run", "cats"], node(0, S, RUN, NOUN))
        self.refuse(["cats", "run"], node(0, S, RUN, NOUN))

    def test_numbers_of_rules(self):
        for k, one in enumerate(READING):
            for number in [*NUMBERS, *range(8)]:
                if one[0] == "rule" and number != one[1]:
                    self.refuse(["cats", "run"], READING[:k] + [("rule", number, one[2])] + READING[k + 1:])
        # The rules 0 and 5 have the same labels, but for those of their parts.
        self.check(["cats", "run"], S, node(5, S, CATS, RUN), True)
        self.refuse(["cats", "run"], node(0, S, CATS, RUN))
        self.refuse(["cats", "run"], node(5, S, NOUN, RUN))
        # As many rules as there are, and the same one again from the end.
        self.refuse(["cats", "run"], node(-2, S, CATS, RUN))

    def test_numbers_of_morphs(self):
        for row in ((-8, 1), (0, -7), (8,), (10 ** 30,), (-10 ** 30, 1), (0, 1, 8), (-1, 0, 1), (0, 9), (-8, -7)):
            self.refuse(["cats"], leaf(n("pl"), *row))
            self.refuse(["cats", "run"], node(0, S, node(1, np("pl", "nom"), leaf(n("pl"), *row)), RUN))
        self.refuse(["on"], leaf(T, -2))
        self.refuse(["cat"], leaf(n("sg"), -8))

    def test_empty_rows(self):
        for words in ([], ["cats"], ["run"]):
            for label in every_label(self.given):
                self.check(words, label, leaf(label), False)
        self.refuse(["cats", "run"], node(0, S, NOUN, leaf(n("pl"))))
        given = make([], [("s", ())], [], [morph("a")], [("q", "k", "r")], [("q", "s"), ("r", "s")], [], "s", "q")
        self.refuse([], leaf(S), given)
        self.refuse(["a"], leaf(S), given)
        self.check(["a"], S, leaf(S, 0), True, given)

    def test_labels_that_are_none_of_the_grammar(self):
        wrong = [("n", ()), ("n", ("pl", "pl")), ("n", ("nom",)), ("n", ("zz",)), ("n", ("",)), ("n", ("*",)),
                 ("n", ("?n",)), ("n", ("pl",) * 50), ("N", ("pl",)), ("zz", ("pl",)), ("", ("pl",)), ("", ()), ("n ", ("pl",)),
                 ("num", ("pl",)), ("pl", ("pl",)), ("s", ("pl",)), ("t", ("",)), ("np", ("nom", "pl")), ("np", ("pl",)),
                 ("np", ("pl", "nom", "nom"))]
        for label in wrong:
            self.refuse(["cats"], leaf(label, 0, 1))
            self.refuse(["cats"], node(1, label, CATS))
            self.refuse(["cats"], node(6, label, CATS))
            self.refuse(["cats"], node(1, np("pl", "nom"), leaf(label, 0, 1)))
            self.refuse(["cats"], node(6, np("pl", "acc"), leaf(label, 0, 1)))
            self.refuse(["cats", "run"], node(0, label, NOUN, RUN))
            self.refuse(["cats", "run"], node(0, S, NOUN, leaf(label, 2)))
            self.refuse(["cats", "run"], node(0, S, node(1, label, CATS), RUN))

    def test_a_value_that_stands_for_any_in_a_rule(self):
        # The pattern takes any case and the part any number, but only if there is such a value.
        for case in ("nom", "acc", "sg", "zz", "*", ""):
            self.check(["cats"], np("pl", case), node(1, np("pl", case), CATS), case in ("nom", "acc"))
        for num in ("sg", "pl", "nom", "zz", "*", ""):
            derivation = node(6, np(num, "acc"), leaf(n("sg"), 3))
            self.check(["runs"], np(num, "acc"), derivation, num in ("sg", "pl"))
            self.check(["cat"], np("sg", "acc"), node(6, np("sg", "acc"), leaf(n(num), 0)), num in ("sg", "pl"))

    def test_labels_of_a_category_that_the_rule_does_not_have(self):
        self.refuse(["cats", "run"], [("rule", 0, T), *READING[1:]])
        self.refuse(["cats", "run"], node(0, S, CATS, RUN))
        self.refuse(["cats", "run"], node(0, S, NOUN, leaf(np("pl", "nom"), 2)))
        self.refuse(["cats"], node(1, n("pl"), CATS))
        self.refuse(["on"], node(2, T, leaf(T, 6)))

    def test_a_variable_with_two_values(self):
        runs, cat = leaf(n("sg"), 3), leaf(n("sg"), 0)
        self.refuse(["cats", "runs"], node(0, S, NOUN, runs))
        self.refuse(["cat", "run"], node(0, S, node(1, np("sg", "nom"), cat), RUN))
        self.check(["cat", "runs"], S, node(0, S, node(1, np("sg", "nom"), cat), runs), True)
        self.refuse(["cat"], node(1, np("pl", "nom"), cat))
        self.refuse(["cats"], node(1, np("sg", "nom"), CATS))
        self.refuse(["run", "runs"], node(5, S, RUN, runs))
        self.refuse(["cats"] * 2 + ["runs", "run"], node(4, n("pl"), CATS, CATS, runs, RUN))
        self.check(["cats"] * 2 + ["run", "runs"], n("pl"), node(4, n("pl"), CATS, CATS, RUN, runs), True)
        self.refuse(["cats"] * 2 + ["run", "runs"], node(4, n("sg"), CATS, CATS, RUN, runs))

    def test_a_value_that_the_rule_does_not_have(self):
        self.refuse(["cats", "run"], node(0, S, node(1, np("pl", "acc"), CATS), RUN))
        self.refuse(["cats"], node(6, np("pl", "nom"), CATS))

    def test_other_words(self):
        for words in (["cats"], ["run"], ["cats", "run", "run"], ["on", "cats", "run"], ["run", "cats"], ["cat", "run"],
                      ["cats", "runs"], ["cats", "ru"], ["catsrun"], ["cats", "run", "cats", "run"], ["cats"] * 2,
                      ["citys", "run"], ["cats"] * 500):
            self.refuse(words, READING)
        self.refuse(["citys"], leaf(n("pl"), 5, 1))
        self.refuse(["cats"], leaf(n("pl"), 1, 0))

    def test_a_row_that_does_not_have_the_label(self):
        self.refuse(["cats"], leaf(n("sg"), 0, 1))
        self.refuse(["cats"], leaf(T, 0, 1))
        self.refuse(["cats"], leaf(np("sg", "nom"), 0, 1))
        # No end: a stem is no noun phrase.
        self.refuse(["cat"], leaf(np("sg", "nom"), 0))
        # No arc, from the first state and from a later one.
        self.refuse(["s"], leaf(n("pl"), 1))
        self.refuse(["catss"], leaf(n("pl"), 0, 1, 1))
        self.refuse(["runs"], leaf(n("pl"), 2, 1))
        self.check(["runs"], n("sg"), leaf(n("sg"), 3), True)
        # Two rows with one text.
        self.check(["cat"], T, leaf(T, 7), True)
        self.refuse(["cat"], leaf(T, 0))
        self.refuse(["cat"], leaf(n("sg"), 7))
        self.check(["cats"], n("pl"), leaf(n("pl"), 4), True)
        self.refuse(["cats"], leaf(n("sg"), 4))

    def test_a_row_with_a_conflict(self):
        given = make([("num", ("sg", "pl"))], [("s", ()), ("n", ("num",))], [],
                     [morph("a", "k", ("num", "sg")), morph("b", "k", ("num", "pl")), morph("c")], [("q", "k", "q")],
                     [("q", "s"), ("q", "n")], [], "s", "q")
        for label in (S, n("sg"), n("pl")):
            self.check(["ab"], label, leaf(label, 0, 1), False, given)
            self.check(["ac"], label, leaf(label, 0, 2), label != n("pl"), given)
            self.check(["cb"], label, leaf(label, 2, 1), label != n("sg"), given)
            self.check(["cc"], label, leaf(label, 2, 2), True, given)

    def test_another_label_is_asked_for(self):
        for derivation, words in ((READING, ["cats", "run"]), (NOUN, ["cats"]), (CATS, ["cats"])):
            for label in [*every_label(self.given), ("zz", ()), ("", ()), ("s", ("pl",)), ("n", ()), ("n", ("pl", "pl")),
                          ("np", ("pl",)), ("np", ("*", "*")), ("n", ("?n",))]:
                with self.subTest(label=label, derivation=derivation):
                    self.assertIs(derives(self.given, words, label, derivation), label == label_of(derivation))

    def test_no_first_state(self):
        given = make([], [("s", ())], [], [morph("a")], [("q", "k", "r")], [("r", "s")], [], "s")
        self.refuse(["a"], leaf(S, 0), given)
        given.set_first("q")
        self.check(["a"], S, leaf(S, 0), True, given)

    def test_a_grammar_that_has_nothing(self):
        for derivation in ([], READING, CATS, leaf(S), node(0, S)):
            self.refuse([], derivation, Grammar())
            self.refuse(["cats", "run"], derivation, Grammar())

    def test_left_and_right_branches(self):
        for many in (1, 2, 3, 400, 3000):
            given = make([], [("s", ()), ("t", ())], [rule(S, S, T), rule(S, T, S), rule(S, T, gloss_row=(1,))],
                         [morph("a", gloss="A")], [("q", "k", "r")], [("r", "t")], [], "s", "q")
            words, last = ["a"] * many, node(2, S, leaf(T, 0))
            left = [("rule", 0, S)] * (many - 1) + last + leaf(T, 0) * (many - 1)
            right = [("rule", 1, S), ("word", T, (0,))] * (many - 1) + last
            self.check_one(given, words, left)
            self.check_one(given, words, right)

    def check_one(self, given, words, derivation):
        self.assertTrue(derives(given, words, S, derivation))
        self.assertTrue(is_reading(given, words, derivation))
        self.assertFalse(derives(given, words, T, derivation))
        for other, longer in ((derivation, words + ["a"]), (derivation, words[1:]), (derivation[:-1], words[1:]),
                              (derivation[1:], words), (derivation + leaf(T, 0), words + ["a"])):
            self.assertFalse(derives(given, longer, S, other))
            self.assertFalse(is_reading(given, longer, other))


class IsReading(DerivesTest):
    def test_only_the_start_category(self):
        given = ordinary()
        derivations = [(READING, ["cats", "run"]), (NOUN, ["cats"]), (CATS, ["cats"]), (leaf(T, 6), ["on"])]
        for start, right in (("s", 0), ("np", 1), ("n", 2), ("t", 3)):
            given.set_start(start)
            for k, (derivation, words) in enumerate(derivations):
                self.assertIs(is_reading(given, words, derivation), k == right)
                self.assertIs(is_reading(given, words + ["on"], derivation), False)
        given.set_start("np")
        for case in ("nom", "acc"):
            self.assertIs(is_reading(given, ["cats"], node(1, np("pl", case), CATS)), True)

    def test_no_start_category(self):
        given = make([], [("s", ())], [], [morph("a")], [("q", "k", "r")], [("r", "s")], [], None, "q")
        for derivation in (leaf(S, 0), [], leaf(("", ()), 0), leaf(("None", ()), 0)):
            self.assertIs(is_reading(given, ["a"], derivation), False)
        self.check(["a"], S, leaf(S, 0), True, given)

    def test_the_empty_list_has_none(self):
        for derivation in ([], READING, leaf(S), [("rule", 0, S)], [("rule", 5, S)]):
            self.assertIs(is_reading(self.given, [], derivation), False)


class Whole(DerivesTest):
    def test_against_all_derivations(self):
        """Each derivation of a label from words derives this label from these words, and no other."""
        chance = random.Random(43)
        seen = 0
        for _ in range(60):
            given = some_language(chance)
            words = some_words(chance, given, 3)
            plain = PlainReadings(given)
            for label in every_label(given):
                found = plain.derivations(words, label)
                for derivation in chance.sample(found, min(len(found), 8)):
                    seen += 1
                    self.check(words, label, derivation, True, given)
                    for _ in range(4):
                        self.check_changed(given, plain, words, label, derivation, chance)
        self.assertGreater(seen, 100)

    def check_changed(self, given, plain, words, label, derivation, chance):
        derivation, k = list(derivation), chance.randrange(len(derivation))
        number, other = chance.randrange(-1, 6), chance.choice(every_label(given))
        choices = [derivation[k:], derivation[:k], derivation + derivation[k:], [("word", other, (number,))],
                   derivation[:k] + derivation[k + 1:], derivation[:k] + [derivation[-1]] + derivation[k + 1:]]
        if derivation[k][0] == "rule":
            choices.append(derivation[:k] + [("rule", number, derivation[k][2])] + derivation[k + 1:])
            choices.append(derivation[:k] + [("rule", derivation[k][1], other)] + derivation[k + 1:])
        else:
            row = derivation[k][2]
            for new in (("word", other, row), ("word", derivation[k][1], (number,)), ("word", other, row + (number,))):
                choices.append(derivation[:k] + [new] + derivation[k + 1:])
        changed = chance.choice(choices)
        self.check(words, label, changed, changed in plain.derivations(words, label), given)
        self.assertIs(is_reading(given, words, changed), changed in plain.readings(words))

    def test_all_lists_of_few_nodes(self):
        """Of all lists of nodes, exactly those are derivations that the document calls so."""
        given = make([("num", ("sg", "pl"))], [("s", ()), ("n", ("num",))],
                     [rule(S, n("?x"), n("?x")), rule(n("*"), n("pl"), S), rule(S, n("pl"))],
                     [morph("a"), morph("b", "k", ("num", "pl"))], [("q", "k", "r")], [("r", "n")], [], "s", "q")
        plain = PlainReadings(given)
        nodes = [("rule", number, label) for number in range(3) for label in every_label(given)]
        nodes += [("word", label, (number,)) for label in every_label(given) for number in range(2)]
        texts = [list(text) for many in range(4) for text in product("ab", repeat=many)]
        wanted = {tuple(text): [plain.derivations(text, label) for label in every_label(given)] for text in texts}
        true = 0
        for many in range(4):
            for derivation in product(nodes, repeat=many):
                words = ["ab"[one[2][0]] for one in derivation if one[0] == "word"]
                for label, found in zip(every_label(given), wanted[tuple(words)]):
                    told = derives(given, words, label, list(derivation))
                    self.assertIs(told, list(derivation) in found)
                    true += told
        self.assertEqual(true, 10)


class Cost(unittest.TestCase):
    def test_one_node(self):
        given = ordinary()
        self.assertEqual(cost(given, leaf(n("pl"), 0)), 1000)
        self.assertEqual(cost(given, CATS), 1007)
        self.assertEqual(cost(given, RUN), 0)

    def test_each_as_often_as_it_occurs(self):
        given = ordinary()
        self.assertEqual(cost(given, NOUN), 1027)
        self.assertEqual(cost(given, READING), 1028)
        self.assertEqual(cost(given, node(2, T, READING)), 1028)
        self.assertEqual(cost(given, node(3, S, leaf(T, 6), node(2, T, READING), READING)), 300 + 2 * 1028)
        given = make([], [("s", ())], [rule(S, S, S, cost=10)], [morph("a", cost=1)], [("q", "k", "q")], [("q", "s")], [], "s", "q")
        self.assertEqual(cost(given, node(0, S, leaf(S, 0, 0, 0), node(0, S, leaf(S, 0), leaf(S, 0, 0)))), 26)


class Gloss(unittest.TestCase):
    def check(self, given, derivation, wanted):
        with self.subTest(derivation=derivation):
            self.assertEqual(gloss(given, derivation), wanted)
            self.assertEqual(plain_gloss(given, derivation), wanted)

    def test_words(self):
        given = make([], [("s", ())], [], [morph("a", gloss="A"), morph("b"), morph("c", gloss="c.C-1"), morph("d")],
                     [("q", "k", "q")], [("q", "s")], [], "s", "q")
        for row, wanted in (((0,), "A"), ((1,), ""), ((0, 2), "A+c.C-1"), ((2, 0), "c.C-1+A"), ((1, 0), "A"), ((0, 1), "A"),
                            ((0, 1, 2), "A+c.C-1"), ((1, 3), ""), ((1, 0, 3, 0, 1), "A+A"), ((0, 0, 0), "A+A+A")):
            self.check(given, leaf(S, *row), wanted)

    def test_gloss_rows(self):
        leaves = [leaf(T, 0), leaf(T, 1), leaf(T, 2)]
        for row, wanted in (((), ""), ((1, 2, 3), "A C"), ((3, 2, 1), "C A"), ((1,), "A"), ((2,), ""), ((2, 2), ""),
                            ((3, 3), "C C"), (("x", 1, "y", "z", 3, "1"), "x A y z C 1"), (("x", 2, "y"), "x y"),
                            (("PAST", "-"), "PAST -"), ((3, 1), "C A"), ((1, 1, 3, 1), "A A C A")):
            given = make([], [("s", ()), ("t", ())], [rule(S, T, T, T, gloss_row=row)],
                         [morph("a", gloss="A"), morph("b"), morph("c", gloss="C")], [("q", "k", "r")], [("r", "t")], [], "s", "q")
            self.check(given, node(0, S, *leaves), wanted)

    def test_many_nodes(self):
        given = ordinary()
        self.check(given, READING, "run of")
        self.check(given, node(2, T, READING), "run of run of")
        self.check(given, node(5, S, CATS, RUN), "cat+PL run")
        self.check(given, node(5, S, leaf(n("sg"), 3), leaf(n("sg"), 5)), "city")
        self.check(given, node(5, S, leaf(n("sg"), 3), leaf(n("sg"), 3)), "")
        self.check(given, node(2, T, node(5, S, leaf(n("sg"), 3), leaf(n("sg"), 3))), "")
        self.check(given, node(3, S, leaf(T, 6), node(2, T, READING), READING), "")

    def test_children_of_children(self):
        # Each child belongs to its own node, whatever number of words stands before it.
        given = make([], [("s", ()), ("t", ())],
                     [rule(S, T, S, gloss_row=(2, 1)), rule(S, S, T, gloss_row=("l", 1, 2, "r")), rule(S, T, gloss_row=(1,)),
                      rule(S, S, S, S, S, gloss_row=(4, "4", 2))],
                     [morph("a", gloss="A"), morph("b", gloss="B"), morph("c", gloss="C")], [("q", "k", "r")], [("r", "t")], [], "s", "q")
        a, b, c = leaf(T, 0), leaf(T, 1), leaf(T, 2)
        one, two, three = node(2, S, a), node(2, S, b), node(2, S, c)
        self.check(given, node(0, S, a, node(0, S, b, three)), "C B A")
        self.check(given, node(1, S, node(1, S, one, b), c), "l l A B r C r")
        self.check(given, node(1, S, node(0, S, a, two), c), "l B A C r")
        self.check(given, node(3, S, node(0, S, a, two), node(1, S, three, a), two, node(0, S, c, one)), "A C 4 l C A r")


class WordsOf(unittest.TestCase):
    def test_words(self):
        given = ordinary()
        self.assertEqual(words_of(given, CATS), ["cats"])
        self.assertEqual(words_of(given, READING), ["cats", "run"])
        self.assertEqual(words_of(given, node(3, S, leaf(T, 6), node(2, T, READING), READING)),
                         ["on", "cats", "run", "cats", "run"])
        self.assertEqual(words_of(given, node(5, S, leaf(n("sg"), 3), leaf(n("sg"), 0))), ["runs", "cat"])

    def test_letters_that_a_seam_has_changed(self):
        given = ordinary()
        self.assertEqual(words_of(given, node(5, S, leaf(n("pl"), 5, 1), leaf(n("pl"), 4))), ["cities", "cats"])

    def test_the_list_is_a_new_one(self):
        given = ordinary()
        kept, derivation = content(given), list(READING)
        found = words_of(given, derivation)
        found.append("more")
        found[0] = "other"
        self.assertEqual(words_of(given, derivation), ["cats", "run"])
        self.assertEqual((content(given), derivation), (kept, READING))


class AllOfThem(unittest.TestCase):
    def test_long_derivations(self):
        given = make([], [("s", ()), ("t", ())],
                     [rule(S, S, T, cost=3, gloss_row=(2, 1)), rule(S, T, S, cost=2, gloss_row=(1, 2)), rule(S, T, gloss_row=(1,))],
                     [morph("a", gloss="A", cost=1), morph("b", gloss="B")], [("q", "k", "r")], [("r", "t")], [], "s", "q")
        many = 2000
        last, first = node(2, S, leaf(T, 1)), leaf(T, 0)
        left = [("rule", 0, S)] * many + last + first * many
        self.assertEqual(cost(given, left), 4 * many)
        self.assertEqual(gloss(given, left), "A " * many + "B")
        self.assertEqual(words_of(given, left), ["b"] + ["a"] * many)
        right = [("rule", 1, S), *first] * many + last
        self.assertEqual(cost(given, right), 3 * many)
        self.assertEqual(gloss(given, right), "A " * many + "B")
        self.assertEqual(words_of(given, right), ["a"] * many + ["b"])

    def test_against_the_document(self):
        chance = random.Random(47)
        seen = 0
        for _ in range(80):
            given = some_language(chance, (0, 1, 30, 1000))
            words = some_words(chance, given, 4)
            found = PlainReadings(given).readings(words)
            for derivation in chance.sample(found, min(len(found), 10)):
                seen += 1
                kept = (content(given), list(derivation))
                self.assertEqual(cost(given, derivation), plain_cost(given, derivation))
                self.assertEqual(gloss(given, derivation), plain_gloss(given, derivation))
                self.assertEqual(words_of(given, derivation), words)
                self.assertEqual((content(given), derivation), kept)
        self.assertGreater(seen, 200)


if __name__ == "__main__":
    unittest.main()
