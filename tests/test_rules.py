"""Tests of readingsall.grammar: add_rule and rings (points 5, 6 and 7)."""

import random
import unittest
from itertools import product

from helpers import BAD_GLOSSES, GOOD_GLOSSES, GrammarTest, content, make
from readingsall.errors import BadGrammar, Ring, Unknown
from readingsall.features import fits
from readingsall.grammar import Grammar

ATTRIBUTES = [("num", ("sg", "pl")), ("case", ("nom", "acc")), ("tense", ("past", "nom"))]
CATEGORIES = [("s", ()), ("np", ("num", "case")), ("n", ("num",)), ("vp", ("num", "tense")), ("det", ()),
              ("k", ("case",)), ("t", ("tense",)), ("all", ("tense", "case", "num"))]

S = ("s", ())
DET = ("det", ())

NO_TERMS = ("", "sing", "A", "?", "??x", "?A", "?1", "?a b", "? a", "?" + "a" * 13, "**", "* ", "?*", "x?", "sg ", "?a?",
            "sg?", "num", "np")


def grammar():
    return make(ATTRIBUTES, CATEGORIES)


def np(num, case):
    return ("np", (num, case))


def n(num):
    return ("n", (num,))


class Accepted(GrammarTest):
    def test_numbers_and_rules_in_order(self):
        given = grammar()
        wanted = [
            (S, (np("?n", "nom"), ("vp", ("?n", "*"))), 0, ()),
            (np("?n", "*"), (DET, n("?n")), 7, (2, "the.DEF", 1)),
            (np("?n", "*"), (DET, n("?n")), 7, (2, "the.DEF", 1)),
            (S, (S, S, S, S), 1000, ("a", 4, 4, "b")),
            (np("sg", "?c"), (n("?x"),), 1, (1,)),
        ]
        for number, (pattern, parts, cost, gloss_row) in enumerate(wanted):
            found = given.add_rule(pattern, parts, cost=cost, gloss_row=gloss_row)
            self.assertEqual((found, type(found)), (number, int))
            self.assertEqual(given.rules(), wanted[:number + 1])

    def test_cost_and_gloss_row_may_be_left_out(self):
        given = grammar()
        given.add_rule(S, (n("sg"),))
        given.add_rule(S, (n("sg"),), gloss_row=(1,))
        given.add_rule(S, (n("sg"),), cost=5)
        self.assertEqual(given.rules(), [(S, (n("sg"),), 0, ()), (S, (n("sg"),), 0, (1,)), (S, (n("sg"),), 5, ())])

    def test_cost_and_gloss_row_are_passed_by_keyword(self):
        with self.assertRaises(TypeError):
            grammar().add_rule(S, (n("sg"),), 5)

    def test_one_to_four_parts(self):
        for many in range(1, 5):
            given = grammar()
            given.add_rule(S, (DET,) * many)
            self.assertEqual(given.rules(), [(S, (DET,) * many, 0, ())])

    def test_costs(self):
        for cost in (0, 1, 999, 1000):
            given = grammar()
            given.add_rule(S, (DET,), cost=cost)
            self.assertEqual(given.rules()[0][2], cost)

    def test_glosses(self):
        for gloss in GOOD_GLOSSES:
            for row in ((gloss,), (1, gloss), (gloss, gloss, 1)):
                given = grammar()
                given.add_rule(S, (DET,), gloss_row=row)
                self.assertEqual(given.rules()[0][3], row)

    def test_integers_of_a_gloss_row(self):
        for many in range(1, 5):
            row = tuple(range(1, many + 1)) * 3
            given = grammar()
            given.add_rule(S, (DET,) * many, gloss_row=row)
            self.assertEqual(given.rules()[0][3], row)

    def test_each_kind_of_term(self):
        for term in ("sg", "pl", "*", "?a", "?sg", "?nom", "?" + "a" * 12, "?a1"):
            for pattern, part in ((n(term), DET), (DET, n(term)), (np(term, "nom"), DET), (DET, np(term, "acc"))):
                given = grammar()
                given.add_rule(pattern, (DET, part))
                self.assertEqual(given.rules()[0][:2], (pattern, (DET, part)))

    def test_one_variable_at_places_of_one_attribute(self):
        given = grammar()
        rule = (("all", ("?t", "?c", "?n")), (("vp", ("?n", "?t")), np("?n", "?c"), n("?n"), ("t", ("?t",))), 0, ())
        given.add_rule(*rule[:2])
        self.assertEqual(given.rules(), [rule])

    def test_a_value_that_two_attributes_have(self):
        given = grammar()
        given.add_rule(("all", ("nom", "nom", "*")), (("t", ("nom",)), ("k", ("nom",))))
        self.assertEqual(len(given.rules()), 1)


class Refused(GrammarTest):
    def check(self, wanted, pattern, parts, **more):
        return self.refuse(grammar(), wanted, "add_rule", pattern, parts, **more)

    def test_no_parts_and_more_than_four(self):
        for many in (0, 5, 6, 50):
            self.check(BadGrammar, S, (DET,) * many)

    def test_unknown_categories(self):
        for name in ("x", "num", "sg", "", "S", "s ", "*", "?s"):
            self.check(Unknown, (name, ()), (DET,))
            for place in range(4):
                parts = [DET] * 4
                parts[place] = (name, ())
                self.check(Unknown, S, tuple(parts))

    def test_too_many_and_too_few_terms(self):
        for pattern in (("s", ("sg",)), ("s", ("*",)), ("np", ()), ("np", ("sg",)), ("np", ("sg", "nom", "past")),
                        ("np", ("*", "*", "*")), ("n", ()), ("n", ("sg", "sg")), ("n", ("sg", "nom")),
                        ("all", ("*",) * 4), ("all", ("*",) * 2), ("det", ("*",) * 9)):
            self.check(BadGrammar, pattern, (DET,))
            self.check(BadGrammar, DET, (pattern,))
            self.check(BadGrammar, DET, (DET, S, DET, pattern))

    def test_strings_that_are_no_terms(self):
        for term in NO_TERMS:
            self.check(BadGrammar, n(term), (DET,))
            self.check(BadGrammar, DET, (DET, n(term)))
            self.check(BadGrammar, np(term, "nom"), (DET,))
            self.check(BadGrammar, np("sg", term), (DET,))
            self.check(BadGrammar, DET, (np("*", "*"), np("?n", term)))

    def test_a_value_of_another_attribute(self):
        for pattern in (n("nom"), n("past"), np("nom", "sg"), np("sg", "past"), ("t", ("acc",)), ("k", ("past",))):
            self.check(BadGrammar, pattern, (DET,))
            self.check(BadGrammar, DET, (pattern,))

    def test_one_variable_at_places_of_two_attributes(self):
        self.check(BadGrammar, np("?x", "?x"), (DET,))
        self.check(BadGrammar, DET, (DET, np("?x", "?x")))
        self.check(BadGrammar, n("?x"), (("t", ("?x",)),))
        self.check(BadGrammar, DET, (n("?x"), ("k", ("?x",))))
        self.check(BadGrammar, DET, (n("?x"), n("?x"), n("?x"), ("k", ("?x",))))
        self.check(BadGrammar, ("all", ("?x", "?y", "?z")), (("vp", ("?z", "?y")),))
        # Both attributes have the value nom.
        self.check(BadGrammar, ("k", ("?x",)), (("t", ("?x",)),))

    def test_costs(self):
        for cost in (-1, 1001, -1000, 10 ** 30, -10 ** 30):
            self.check(BadGrammar, S, (DET,), cost=cost)

    def test_glosses(self):
        for gloss in BAD_GLOSSES:
            for row in ((gloss,), (1, gloss), (gloss, 1), ("a", gloss, "b")):
                self.check(BadGrammar, S, (DET,), gloss_row=row)

    def test_integers_of_a_gloss_row(self):
        for many in range(1, 5):
            for item in (0, -1, many + 1, many + 2, 10 ** 30, -10 ** 30):
                for row in ((item,), (1, item), (item, "a")):
                    self.check(BadGrammar, S, (DET,) * many, gloss_row=row)

    def test_the_number_of_parts_first(self):
        self.check(BadGrammar, ("x", ()), ())
        self.check(BadGrammar, S, (("x", ()),) * 5)
        self.check(BadGrammar, ("x", ()), (DET,) * 5, cost=-1)

    def test_unknown_before_all_else(self):
        bad = {"cost": 1001, "gloss_row": (0, "")}
        self.check(Unknown, ("s", ("*",)), (("x", ()),))
        self.check(Unknown, n("none"), (DET, ("x", ())))
        self.check(Unknown, ("x", ("a",) * 9), (n("none"),))
        self.check(Unknown, np("?x", "?x"), (("x", ()),))
        self.check(Unknown, S, (DET, DET, DET, ("x", ())), **bad)
        self.check(Unknown, ("x", ()), (n("nom"),), **bad)

    def test_other_errors_before_a_ring(self):
        for pattern, part, more in (
            (n("?x"), n("?x"), {"cost": -1}),
            (n("?x"), n("?x"), {"cost": 1001}),
            (n("?x"), n("?x"), {"gloss_row": (2,)}),
            (n("?x"), n("?x"), {"gloss_row": ("",)}),
            (np("?x", "?x"), np("?x", "?x"), {}),
            (n("none"), n("none"), {}),
            (S, ("s", ("*",)), {}),
        ):
            self.check(BadGrammar, pattern, (part,), **more)
        self.check(Unknown, ("x", ()), (("x", ()),))

    def test_the_next_number_is_not_used_up(self):
        given = grammar()
        self.assertEqual(given.add_rule(S, (DET,)), 0)
        self.refuse(given, BadGrammar, "add_rule", S, ())
        self.refuse(given, Unknown, "add_rule", S, (("x", ()),))
        self.refuse(given, Ring, "add_rule", S, (S,))
        self.refuse(given, Ring, "add_rule", DET, (S,))
        self.assertEqual(given.add_rule(S, (DET,)), 1)


class RingTest(GrammarTest):
    def ring(self, given, pattern, part, **more):
        """Check that the unit rule is refused with a ring that it closes, and return the ring."""
        error = self.refuse(given, Ring, "add_rule", pattern, (part,), **more)
        ring = error.ring
        self.assertIs(type(ring), list)
        self.assertGreaterEqual(len(ring), 2)
        self.assertEqual(ring[0], ring[-1])
        every = [label for name, _ in given.categories() for label in given.labels(name)]
        rules = [*given.rules(), (pattern, (part,), 0, ())]
        for label, after in zip(ring, ring[1:]):
            self.assertIn(label, every)
            self.assertTrue(any(fits(rule, label, (after,)) for rule in rules), ring)
        return ring


class Rings(RingTest):
    def test_from_a_label_to_itself(self):
        for label in (S, n("sg"), np("pl", "acc")):
            self.assertEqual(self.ring(grammar(), label, label), [label, label])

    def test_by_variables_and_any_value(self):
        self.ring(grammar(), n("?x"), n("?x"))
        self.ring(grammar(), n("?x"), n("?y"))
        self.ring(grammar(), n("*"), n("*"))
        self.ring(grammar(), n("*"), n("?x"))
        self.assertEqual(self.ring(grammar(), n("?x"), n("sg")), [n("sg")] * 2)
        self.assertEqual(self.ring(grammar(), n("pl"), n("*")), [n("pl")] * 2)
        self.assertEqual(self.ring(grammar(), np("?x", "acc"), np("pl", "?c")), [np("pl", "acc")] * 2)

    def test_by_two_labels_of_one_rule(self):
        given = make([("a", ("x", "y")), ("b", ("x", "y"))], [("c", ("a", "b"))])
        given.add_rule(("c", ("x", "y")), (("c", ("y", "x")),))
        ring = self.ring(given, ("c", ("y", "?b")), ("c", ("x", "y")))
        self.assertIn(ring, ([("c", ("x", "y")), ("c", ("y", "x")), ("c", ("x", "y"))],
                             [("c", ("y", "x")), ("c", ("x", "y")), ("c", ("y", "x"))]))

    def test_round_by_two_and_more_rules(self):
        for many in range(2, 9):
            steps = [((f"c{k}", ()), (f"c{(k + 1) % many}", ())) for k in range(many)]
            for last in range(many):
                with self.subTest(many, last=last):
                    given = make([], [(f"c{k}", ()) for k in range(many)])
                    for k in range(many):
                        if k != last:
                            given.add_rule(steps[k][0], (steps[k][1],))
                    ring = self.ring(given, *steps[last])
                    self.assertEqual(len(ring), many + 1)
                    self.assertEqual(len(set(ring)), many)

    def test_one_value_of_many_closes_it(self):
        given = make([("a", ("u", "v", "w", "x", "y", "z"))], [("c", ("a",)), ("d", ("a",)), ("e", ("a",))])
        given.add_rule(("c", ("?a",)), (("d", ("?a",)),))
        given.add_rule(("d", ("?a",)), (("e", ("?a",)),))
        given.add_rule(("e", ("u",)), (("e", ("v",)),))
        ring = self.ring(given, ("e", ("y",)), ("c", ("y",)))
        self.assertEqual({label[1] for label in ring}, {("y",)})
        self.assertEqual(len(ring), 4)
        self.ring(given, ("e", ("v",)), ("c", ("u",)))
        given.add_rule(("e", ("x",)), (("c", ("w",)),))
        self.assertEqual(len(given.rules()), 4)

    def test_a_ring_that_does_not_begin_at_the_first_label(self):
        # The ring is reached from other labels of the pattern too, which are not part of it.
        given = make([("a", ("u", "v", "w"))], [("c", ("a",)), ("d", ())])
        given.add_rule(("d", ()), (("c", ("w",)),))
        ring = self.ring(given, ("c", ("?x",)), ("d", ()))
        self.assertEqual({label for label in ring}, {("c", ("w",)), ("d", ())})

    def test_the_grammar_goes_on(self):
        given = grammar()
        given.add_rule(S, (DET,))
        for _ in range(3):
            self.ring(given, DET, S)
        self.assertEqual(given.add_rule(DET, (n("sg"),)), 1)
        self.ring(given, n("*"), S)
        self.assertEqual(given.add_rule(n("pl"), (S,)), 2)
        self.ring(given, n("sg"), n("?x"))
        self.assertEqual([rule[:2] for rule in given.rules()],
                         [(S, (DET,)), (DET, (n("sg"),)), (n("pl"), (S,))])

    def test_a_change_of_the_ring_changes_nothing(self):
        given = grammar()
        given.add_rule(S, (DET,))
        kept = content(given)
        ring = self.ring(given, DET, S)
        ring.clear()
        self.assertEqual(content(given), kept)
        self.assertEqual(len(self.ring(given, DET, S)), 3)

    def test_a_long_ring(self):
        many = 3000
        given = make([], [(f"c{k}", ()) for k in range(many)])
        for k in range(many - 1):
            given.add_rule((f"c{k}", ()), ((f"c{k + 1}", ()),))
        error = self.refuse(given, Ring, "add_rule", (f"c{many - 1}", ()), (("c0", ()),))
        self.assertEqual(sorted(error.ring[1:]), sorted((f"c{k}", ()) for k in range(many)))


class NoRings(GrammarTest):
    def accept(self, given, *steps):
        for pattern, part in steps:
            number = len(given.rules())
            self.assertEqual(given.add_rule(pattern, (part,)), number)

    def test_rules_of_two_and_more_parts(self):
        given = grammar()
        for many in (2, 3, 4):
            given.add_rule(S, (S,) * many)
            given.add_rule(n("?x"), (n("?x"),) * many)
        given.add_rule(S, (DET,))
        given.add_rule(DET, (S, S))
        given.add_rule(DET, (S, DET))
        self.assertEqual(len(given.rules()), 9)

    def test_unit_rules_that_close_none(self):
        self.accept(grammar(), (S, DET), (S, n("sg")), (DET, n("pl")), (DET, n("sg")), (S, DET))
        self.accept(grammar(), (n("sg"), n("pl")), (np("sg", "nom"), np("pl", "nom")), (np("pl", "nom"), np("pl", "acc")))
        self.accept(grammar(), (np("sg", "?c"), np("pl", "?c")), (np("?n", "nom"), np("?n", "acc")))
        self.accept(grammar(), (np("sg", "*"), np("pl", "*")), (np("pl", "nom"), np("pl", "acc")))
        self.accept(grammar(), (n("?x"), np("?x", "*")), (np("?x", "*"), S), (S, DET))

    def test_a_variable_keeps_the_values_apart(self):
        # By the categories alone there would be a ring, by the labels there is none.
        given = make([("a", ("u", "v", "w"))], [("c", ("a",)), ("d", ("a",))])
        self.accept(given, (("c", ("?x",)), ("d", ("?x",))), (("d", ("u",)), ("c", ("v",))),
                    (("d", ("v",)), ("c", ("w",))))
        self.assertEqual(len(self.refuse(given, Ring, "add_rule", ("d", ("w",)), (("c", ("u",)),)).ring), 7)
        self.refuse(given, Ring, "add_rule", ("d", ("w",)), (("c", ("*",)),))

    def test_a_label_that_is_reached_twice_is_no_ring(self):
        many = 40
        given = make([], [(f"c{k}", ()) for k in range(many)])
        for k in range(many - 2, -1, -1):
            for _ in range(2):
                self.accept(given, ((f"c{k}", ()), (f"c{k + 1}", ())))
        for k in range(many - 3, -1, -1):
            self.accept(given, ((f"c{k}", ()), (f"c{k + 2}", ())))

    def test_a_category_that_comes_later(self):
        given = Grammar()
        given.add_category("s", [])
        given.add_category("t", [])
        given.add_rule(("s", ()), (("t", ()),))
        given.add_attribute("num", ["sg", "pl"])
        given.add_category("n", ["num"])
        given.add_rule(("n", ("?x",)), (("s", ()),))
        self.refuse(given, Ring, "add_rule", ("t", ()), (("n", ("pl",)),))
        self.assertEqual(len(given.rules()), 2)


def plainly_has_ring(every, rules):
    """Point 7 word by word: walk on from each label until no new label is reached."""
    units = [rule for rule in rules if len(rule[1]) == 1]
    after = {label: {other for other in every if any(fits(unit, label, (other,)) for unit in units)}
             for label in every}
    for label in every:
        reached, layer = set(), after[label]
        while layer - reached:
            reached |= layer
            layer = set().union(*[after[other] for other in layer])
        if label in reached:
            return True
    return False


class AgainstTheDocument(RingTest):
    def test_random_unit_rules(self):
        chance = random.Random(7)
        closed = accepted = 0
        for _ in range(60):
            given = make([("a", ("x", "y", "z")), ("b", ("x", "u"))],
                         [("c", ("a", "b")), ("d", ("a",)), ("e", ()), ("f", ("b", "a"))])
            every = [label for name, _ in given.categories() for label in given.labels(name)]
            terms = {"a": ("x", "y", "z", "?p", "?q", "*"), "b": ("x", "u", "?r", "?s", "*")}
            for _ in range(12):
                patterns = []
                for _ in range(2):
                    name, attributes = chance.choice(given.categories())
                    patterns.append((name, tuple(chance.choice(terms[one]) for one in attributes)))
                if plainly_has_ring(every, [*given.rules(), (patterns[0], (patterns[1],), 0, ())]):
                    self.ring(given, *patterns)
                    closed += 1
                else:
                    given.add_rule(patterns[0], (patterns[1],))
                    accepted += 1
        self.assertGreater(closed, 100)
        self.assertGreater(accepted, 100)

    def test_all_unit_rules_of_one_category(self):
        every = [("c", (value,)) for value in "xyz"]
        for left, right in product(("x", "y", "z", "?p", "?q", "*"), repeat=2):
            for one, other in product(("x", "y", "?p", "*"), repeat=2):
                given = make([("a", ("x", "y", "z"))], [("c", ("a",))])
                steps = [(("c", (left,)), ("c", (right,))), (("c", (one,)), ("c", (other,)))]
                for pattern, part in steps:
                    rules = [*given.rules(), (pattern, (part,), 0, ())]
                    if plainly_has_ring(every, rules):
                        self.ring(given, pattern, part)
                    else:
                        given.add_rule(pattern, (part,))
                        self.assertEqual(given.rules(), rules)


if __name__ == "__main__":
    unittest.main()
