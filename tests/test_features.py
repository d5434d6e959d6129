"""Tests of readingsall.features (points 4, 5 and 6)."""

import copy
import unittest
from itertools import product

from helpers import content, make
from plain import every_label, plainly_fits
from readingsall.features import fits, left_labels
from standin import StandIn

# The values stand neither in ascending nor in descending order, and two attributes share one.
ATTRIBUTES = [
    ("num", ("sg", "pl", "du")),
    ("case", ("nom", "acc")),
    ("tense", ("past", "nom", "fut")),
]
CATEGORIES = [
    ("s", ()),
    ("np", ("num", "case")),
    ("n", ("num",)),
    ("vp", ("num", "tense")),
    ("x", ("case",)),
    ("y", ("tense",)),
    ("wide", ("tense", "num", "case")),
]

S = ("s", ())


def rule(pattern, *parts):
    return (pattern, parts, 0, ())


def np(num, case):
    return ("np", (num, case))


def n(num):
    return ("n", (num,))


def vp(num, tense):
    return ("vp", (num, tense))


RULES = [
    rule(S, np("?n", "nom"), vp("?n", "*")),
    rule(np("?n", "?c"), n("?n")),
    rule(np("?n", "*"), n("?n")),
    rule(np("?a", "?b"), S),
    rule(np("sg", "acc"), n("*"), n("pl")),
    rule(("wide", ("?t", "?n", "?c")), vp("?n", "?t"), np("?n", "?c")),
    rule(("wide", ("*", "*", "*")), S, S, S, S),
    rule(n("?n"), np("?n", "*"), np("?n", "acc"), np("?m", "*"), vp("?m", "nom")),
    rule(("wide", ("?z", "?y", "?x")), S),
    rule(("x", ("nom",)), ("y", ("nom",))),
    rule(S, S),
    rule(("wide", ("?t", "sg", "*")), ("y", ("?t",)), ("y", ("?t",))),
]

# All variables stand at places of one attribute.
TWICE = StandIn(
    [("g", ("m", "f", "c"))],
    [("p", ("g",)), ("q", ())],
    [
        rule(("p", ("?x",)), ("p", ("?x",)), ("p", ("?x",))),
        rule(("p", ("?x",)), ("p", ("?y",)), ("p", ("?y",))),
        rule(("p", ("?x",)), ("q", ())),
        rule(("q", ()), ("p", ("?x",)), ("p", ("?y",)), ("p", ("?x",)), ("p", ("?y",))),
    ],
)

# One variable stands twice in one pattern. Points 4 and 6 exclude that together, but the stand-in does not:
# its category has one attribute twice.
DOUBLE = StandIn(
    [("g", ("m", "f", "c"))],
    [("d", ("g", "g")), ("e", ("g",))],
    [
        rule(("d", ("?x", "?x")), ("e", ("*",))),
        rule(("d", ("?x", "?x")), ("e", ("?x",))),
        rule(("e", ("?x",)), ("d", ("?x", "?x"))),
        rule(("e", ("?x",)), ("d", ("?y", "?y"))),
        rule(("d", ("?x", "?y")), ("d", ("?y", "?x"))),
    ],
)


def grammar():
    return StandIn(ATTRIBUTES, CATEGORIES, RULES)


class Fits(unittest.TestCase):
    def check(self, one, label, labels, wanted):
        with self.subTest(rule=one, label=label, labels=labels):
            self.assertIs(fits(one, label, labels), wanted)

    def test_ordinary(self):
        sentence = RULES[0]
        self.check(sentence, S, (np("sg", "nom"), vp("sg", "past")), True)
        self.check(sentence, S, (np("pl", "nom"), vp("pl", "nom")), True)
        self.check(sentence, S, (np("sg", "nom"), vp("pl", "past")), False)
        self.check(sentence, S, (np("sg", "acc"), vp("sg", "past")), False)

    def test_more_and_fewer_labels_than_parts(self):
        np_sg, vp_sg = np("sg", "nom"), vp("sg", "past")
        for labels in ((), (np_sg,), (np_sg, vp_sg, vp_sg), (np_sg, vp_sg, S), (S, np_sg, vp_sg),
                       (np_sg, vp_sg) * 3):
            self.check(RULES[0], S, labels, False)
        self.check(RULES[6], ("wide", ("fut", "sg", "nom")), (S,) * 4, True)
        for many in (0, 1, 2, 3, 5, 6, 20):
            self.check(RULES[6], ("wide", ("fut", "sg", "nom")), (S,) * many, False)
        self.check(RULES[10], S, (), False)
        self.check(RULES[10], S, (S, S), False)

    def test_another_category_on_the_left_and_in_each_part(self):
        one = rule(n("*"), n("*"), n("*"), n("*"), n("*"))
        # The name of the category is all in which this label differs.
        same = ("same", ("sg",))
        right = [n("sg")] * 5
        self.check(one, right[0], tuple(right[1:]), True)
        for place in range(5):
            wrong = list(right)
            wrong[place] = same
            self.check(one, wrong[0], tuple(wrong[1:]), False)
            wrong[place] = S
            self.check(one, wrong[0], tuple(wrong[1:]), False)

    def test_labels_in_another_order(self):
        self.check(RULES[0], S, (vp("sg", "past"), np("sg", "nom")), False)
        self.check(rule(S, n("sg"), n("pl")), S, (n("sg"), n("pl")), True)
        self.check(rule(S, n("sg"), n("pl")), S, (n("pl"), n("sg")), False)

    def test_each_kind_of_term_at_each_place(self):
        right = [np("sg", "nom"), np("sg", "nom"), np("sg", "nom")]
        for place in range(6):
            for term, wanted in (("sg", False), ("nom", False), ("*", True), ("?v", True)):
                rows = [["*", "*"], ["*", "*"], ["*", "*"]]
                rows[place // 2][place % 2] = term
                one = rule(*[np(*row) for row in rows])
                fitting = ("sg", "nom")[place % 2]
                self.check(one, right[0], tuple(right[1:]), wanted or term == fitting)

    def test_a_value_at_each_place_of_three(self):
        for place in range(3):
            for value in ("fut", "sg", "nom"):
                terms = ["*", "*", "*"]
                terms[place] = value
                fitting = ("fut", "sg", "nom")[place] == value
                wide = ("wide", ("fut", "sg", "nom"))
                self.check(rule(("wide", tuple(terms)), S), wide, (S,), fitting)
                self.check(rule(S, ("wide", tuple(terms))), S, (wide,), fitting)

    def test_a_variable_once_takes_each_value(self):
        for value in ("sg", "pl", "du"):
            self.check(rule(n("?x"), S), n(value), (S,), True)
            self.check(rule(S, n("?x")), S, (n(value),), True)

    def test_one_variable_within_one_pattern(self):
        for one, other in product("mfc", repeat=2):
            label, wanted = ("d", (one, other)), one == other
            self.check(DOUBLE.rules()[0], label, (("e", ("m",)),), wanted)
            self.check(DOUBLE.rules()[1], label, (("e", (one,)),), wanted)
            self.check(DOUBLE.rules()[1], label, (("e", (other,)),), wanted)
            self.check(DOUBLE.rules()[2], ("e", (one,)), (label,), wanted)
            self.check(DOUBLE.rules()[3], ("e", ("m",)), (label,), wanted)

    def test_one_variable_in_several_parts(self):
        one = rule(S, n("?x"), S, n("?x"), n("?x"))
        for values in product(("sg", "pl", "du"), repeat=3):
            labels = (n(values[0]), S, n(values[1]), n(values[2]))
            self.check(one, S, labels, values[0] == values[1] == values[2])

    def test_one_variable_on_the_left_and_in_a_part(self):
        for left, right in product(("sg", "pl", "du"), repeat=2):
            self.check(rule(n("?x"), n("?x")), n(left), (n(right),), left == right)
            self.check(rule(n("?x"), S, n("?x")), n(left), (S, n(right)), left == right)

    def test_two_variables_may_have_one_value(self):
        for left, right in product(("sg", "pl", "du"), repeat=2):
            self.check(rule(n("?x"), n("?y")), n(left), (n(right),), True)
            self.check(rule(n("*"), n("*")), n(left), (n(right),), True)

    def test_variables_of_similar_names(self):
        self.check(rule(n("?x"), n("?x1")), n("sg"), (n("pl"),), True)
        self.check(rule(n("?sg"), n("*")), n("pl"), (n("pl"),), True)
        self.check(rule(n("?sg"), n("?sg")), n("pl"), (n("pl"),), True)

    def test_categories_without_attributes(self):
        self.check(rule(S, S), S, (S,), True)
        self.check(rule(S, S), ("t", ()), (S,), False)
        self.check(rule(S, S), S, (("t", ()),), False)
        self.check(rule(S, S, ("t", ())), S, (S, ("t", ())), True)

    def test_attributes_that_share_a_value(self):
        self.check(RULES[9], ("x", ("nom",)), (("y", ("nom",)),), True)
        self.check(RULES[9], ("x", ("acc",)), (("y", ("nom",)),), False)
        self.check(RULES[9], ("x", ("nom",)), (("y", ("fut",)),), False)
        one = rule(("wide", ("nom", "*", "?c")), np("*", "?c"), vp("*", "nom"))
        wide = ("wide", ("nom", "sg", "nom"))
        self.check(one, wide, (np("sg", "nom"), vp("du", "nom")), True)
        self.check(one, wide, (np("sg", "acc"), vp("du", "nom")), False)
        self.check(one, wide, (np("sg", "nom"), vp("du", "past")), False)

    def test_cost_and_gloss_row_do_not_matter(self):
        for cost, row in ((0, ()), (1000, ("A.b-1", 1, 1))):
            self.check((n("?x"), (n("?x"),), cost, row), n("sg"), (n("sg"),), True)
            self.check((n("?x"), (n("?x"),), cost, row), n("sg"), (n("pl"),), False)

    def test_a_call_does_not_depend_on_earlier_ones(self):
        one = rule(n("?x"), n("?x"))
        for value in ("sg", "pl", "sg", "du", "pl"):
            self.check(one, n(value), (n(value),), True)
            self.check(one, n(value), (n("none"),), False)

    def test_against_the_words_of_the_document(self):
        for given in (grammar(), TWICE, DOUBLE):
            every = given.all_labels()
            for one in given.rules():
                for many in range(3):
                    for label in every:
                        for labels in product(every[::1 if many < 2 else 4], repeat=many):
                            self.check(one, label, labels, plainly_fits(one, label, labels))

    def test_what_is_passed_stays_as_it_is(self):
        one, label, labels = RULES[0], S, (np("sg", "nom"), vp("sg", "past"))
        kept = copy.deepcopy((one, label, labels))
        fits(one, label, labels)
        fits(one, label, labels[:1])
        self.assertEqual((one, label, labels), kept)


class LeftLabels(unittest.TestCase):
    def check(self, given, number, labels, wanted):
        with self.subTest(rule=given.rules()[number], labels=labels):
            found = left_labels(given, number, labels)
            self.assertEqual(found, wanted)
            self.assertIs(type(found), list)

    def test_one_label(self):
        self.check(grammar(), 0, (np("sg", "nom"), vp("sg", "past")), [S])
        self.check(grammar(), 4, (n("du"), n("pl")), [np("sg", "acc")])
        self.check(grammar(), 10, (S,), [S])
        self.check(grammar(), 5, (vp("du", "nom"), np("du", "acc")), [("wide", ("nom", "du", "acc"))])

    def test_a_variable_of_the_left_that_stands_in_no_part(self):
        self.check(grammar(), 1, (n("pl"),), [np("pl", "acc"), np("pl", "nom")])
        self.check(TWICE, 1, (("p", ("f",)), ("p", ("f",))), [("p", ("c",)), ("p", ("f",)), ("p", ("m",))])

    def test_any_value_on_the_left(self):
        self.check(grammar(), 2, (n("pl"),), [np("pl", "acc"), np("pl", "nom")])
        self.check(grammar(), 11, (("y", ("nom",)), ("y", ("nom",))),
                   [("wide", ("nom", "sg", "acc")), ("wide", ("nom", "sg", "nom"))])

    def test_ascending_order_whatever_the_order_of_the_values(self):
        wanted = [np(num, case) for num in ("du", "pl", "sg") for case in ("acc", "nom")]
        self.check(grammar(), 3, (S,), wanted)
        wanted = [("wide", (tense, num, case)) for tense in ("fut", "nom", "past")
                  for num in ("du", "pl", "sg") for case in ("acc", "nom")]
        self.check(grammar(), 8, (S,), wanted)
        self.check(grammar(), 6, (S, S, S, S), wanted)
        given = StandIn([("a", ("b", "a9", "ab", "a", "b0", "a1"))], [("c", ("a",)), ("s", ())],
                        [rule(("c", ("*",)), S), rule(("c", ("?x",)), S)])
        wanted = [("c", (value,)) for value in ("a", "a1", "a9", "ab", "b", "b0")]
        self.check(given, 0, (S,), wanted)
        self.check(given, 1, (S,), wanted)

    def test_one_variable_twice_on_the_left(self):
        wanted = [("d", ("c", "c")), ("d", ("f", "f")), ("d", ("m", "m"))]
        for value in "mfc":
            self.check(DOUBLE, 0, (("e", (value,)),), wanted)
            self.check(DOUBLE, 1, (("e", (value,)),), [("d", (value, value))])
        self.check(DOUBLE, 4, (("d", ("m", "f")),), [("d", ("f", "m"))])
        given = StandIn([("g", ("b", "c", "a")), ("h", ("d", "c", "b"))], [("d", ("g", "h")), ("s", ())],
                        [rule(("d", ("?x", "?x")), S)])
        self.check(given, 0, (S,), [("d", ("b", "b")), ("d", ("c", "c"))])

    def test_no_label_stands_twice(self):
        for given in (grammar(), TWICE, DOUBLE):
            for number in range(len(given.rules())):
                for labels in product(given.all_labels(), repeat=len(given.rules()[number][1]) % 3):
                    found = left_labels(given, number, labels)
                    self.assertEqual(len(found), len(set(found)))

    def test_labels_that_do_not_fit(self):
        given = grammar()
        self.check(given, 0, (np("sg", "nom"), vp("pl", "past")), [])
        self.check(given, 0, (np("sg", "acc"), vp("sg", "past")), [])
        self.check(given, 0, (vp("sg", "past"), np("sg", "nom")), [])
        self.check(given, 1, (S,), [])
        self.check(given, 10, (n("sg"),), [])
        self.check(TWICE, 1, (("p", ("f",)), ("p", ("m",))), [])

    def test_too_many_too_few_and_no_labels(self):
        given = grammar()
        for number in range(len(RULES)):
            self.check(given, number, (), [])
        self.check(given, 0, (np("sg", "nom"),), [])
        self.check(given, 0, (np("sg", "nom"), vp("sg", "past"), S), [])
        self.check(given, 0, (np("sg", "nom"), vp("sg", "past")) * 50, [])
        self.check(given, 6, (S, S, S), [])
        self.check(given, 6, (S, S, S, S, S), [])
        self.check(given, 3, (S, S), [])

    def test_all_labels_and_no_others(self):
        for given in (grammar(), TWICE, DOUBLE):
            every = given.all_labels()
            for number, one in enumerate(given.rules()):
                for many in range(3):
                    for labels in product(every[::1 if many < 2 else 4], repeat=many):
                        wanted = sorted(label for label in every if plainly_fits(one, label, labels))
                        self.check(given, number, labels, wanted)

    def test_four_parts(self):
        given = grammar()
        labels = (np("sg", "nom"), np("sg", "acc"), np("pl", "nom"), vp("pl", "nom"))
        self.check(given, 7, labels, [n("sg")])
        for place, wrong in ((0, np("du", "nom")), (1, np("sg", "nom")), (2, np("sg", "acc")),
                             (3, vp("pl", "fut")), (3, vp("sg", "nom"))):
            rows = list(labels)
            rows[place] = wrong
            self.check(given, 7, tuple(rows), [])

    def test_a_number_without_a_rule(self):
        given = StandIn([], [("s", ())], [rule(S, S)])
        self.assertEqual(left_labels(given, 0, (S,)), [S])
        for number in (1, 2, -1, -2, 10 ** 20):
            with self.subTest(number):
                self.assertEqual(left_labels(given, number, (S,)), [])

    def test_a_change_of_the_returned_list_changes_nothing(self):
        given = grammar()
        wanted = [np("pl", "acc"), np("pl", "nom")]
        found = left_labels(given, 1, (n("pl"),))
        again = left_labels(given, 1, (n("pl"),))
        self.assertIsNot(found, again)
        found.clear()
        self.assertEqual(again, wanted)
        self.assertEqual(left_labels(given, 1, (n("pl"),)), wanted)
        empty = left_labels(given, 1, ())
        empty.append(S)
        self.assertEqual(left_labels(given, 1, ()), [])

    def test_the_call_changes_neither_the_grammar_nor_the_labels(self):
        given, labels = grammar(), (n("pl"),)
        kept = copy.deepcopy((given.kept, labels))
        left_labels(given, 1, labels)
        left_labels(given, 1, ())
        left_labels(given, 99, labels)
        self.assertEqual((given.kept, labels), kept)


class OneListForAll(StandIn):
    """A grammar that returns its very own lists, so that a change of them would show."""

    def __init__(self, attributes, categories, rules):
        super().__init__(attributes, categories, rules)
        self.own_rules = list(rules)
        self.own_labels = {name: super(OneListForAll, self).labels(name) for name, _ in categories}

    def rules(self):
        return self.own_rules

    def labels(self, category):
        return self.own_labels[category]


class OwnLists(unittest.TestCase):
    def test_no_list_of_the_grammar_is_modified_or_returned(self):
        given = OneListForAll(ATTRIBUTES, CATEGORIES, RULES)
        kept = copy.deepcopy((given.own_rules, given.own_labels))
        for number in range(len(RULES)):
            for labels in ((), (S,), (n("sg"),), (S, S, S, S)):
                left_labels(given, number, labels).append(S)
        self.assertEqual((given.own_rules, given.own_labels), kept)


class OwnGrammar(unittest.TestCase):
    """With a Grammar of the program, which has the rules that close no ring."""

    def grammar(self):
        rules = [RULES[k] for k in (0, 1, 2, 4, 5, 6, 7, 8, 9, 11)]
        return make(ATTRIBUTES, CATEGORIES, rules)

    def check(self, given, number, labels, wanted):
        with self.subTest(rule=given.rules()[number], labels=labels):
            found = left_labels(given, number, labels)
            self.assertEqual(found, wanted)
            self.assertIs(type(found), list)

    def test_all_labels_and_no_others(self):
        given = self.grammar()
        every = every_label(given)
        for number, one in enumerate(given.rules()):
            for many in range(3):
                for labels in product(every[::1 if many < 2 else 3], repeat=many):
                    wanted = sorted(label for label in every if plainly_fits(one, label, labels))
                    self.check(given, number, labels, wanted)

    def test_ordinary(self):
        given = self.grammar()
        self.check(given, 0, (np("sg", "nom"), vp("sg", "past")), [S])
        self.check(given, 0, (np("sg", "nom"), vp("pl", "past")), [])
        self.check(given, 1, (n("pl"),), [np("pl", "acc"), np("pl", "nom")])
        self.check(given, 4, (vp("du", "nom"), np("du", "acc")), [("wide", ("nom", "du", "acc"))])
        labels = (np("sg", "nom"), np("sg", "acc"), np("pl", "nom"), vp("pl", "nom"))
        self.check(given, 6, labels, [n("sg")])
        wanted = [("wide", (tense, num, case)) for tense in ("fut", "nom", "past")
                  for num in ("du", "pl", "sg") for case in ("acc", "nom")]
        self.check(given, 5, (S,) * 4, wanted)
        self.check(given, 7, (S,), wanted)

    def test_any_number_of_labels(self):
        given = self.grammar()
        for number, one in enumerate(given.rules()):
            for many in (0, 1, 2, 3, 4, 5, 6, 1000):
                if many != len(one[1]):
                    self.check(given, number, (S,) * many, [])
                    self.check(given, number, (n("sg"),) * many, [])

    def test_labels_of_other_categories_as_many_as_the_parts(self):
        given = self.grammar()
        self.check(given, 0, (S, S), [])
        self.check(given, 0, (vp("sg", "past"), np("sg", "nom")), [])
        self.check(given, 8, (n("sg"),), [])

    def test_the_call_changes_nothing(self):
        given = self.grammar()
        kept = content(given)
        for number in range(len(given.rules())):
            for labels in ((), (S,), (n("pl"),), (S, S, S, S)):
                left_labels(given, number, labels).append(S)
        self.assertEqual(content(given), kept)
        self.check(given, 1, (n("pl"),), [np("pl", "acc"), np("pl", "nom")])


if __name__ == "__main__":
    unittest.main()
