"""Tests of readingsall.examples (points 6 and 11 to 15)."""

import random
import unittest
from itertools import product

from helpers import content, make
from plain import every_label, plain_labels, plain_rows, plain_text, plainly_fits, some_grammar
from plain_readings import add_some_rule, some_language
from readingsall.derivations import derives, words_of
from readingsall.examples import example
from readingsall.grammar import Grammar
from readingsall.names import is_form

S, T, U = ("s", ()), ("t", ()), ("u", ())


def n(num):
    return ("n", (num,))


def rule(pattern, *parts):
    return (pattern, parts, 0, ())


def morph(text, kind="k", *marks):
    return (text, kind, marks, 0, "")


def plain_derived(grammar, most):
    """All labels that are derived, if no row needs more than so many morphs: rules again and again, until no new one."""
    found = {label for row in plain_rows(grammar, most) for label in plain_labels(grammar, row)}
    while True:
        new = set()
        for one in grammar.rules():
            left = [label for label in grammar.labels(one[0][0]) if label not in found]
            rows = [[label for label in found if label[0] == category] for category, _ in one[1]]
            new |= {label for label in left for labels in product(*rows) if plainly_fits(one, label, labels)}
        if not new:
            return found
        found |= new


class ExampleTest(unittest.TestCase):
    def check(self, given, label, wanted=True):
        """Check that there is an example, or none; return it."""
        with self.subTest(label=label, grammar=content(given)):
            kept = content(given)
            found = example(given, label)
            if wanted:
                self.assertIs(type(found), list)
                words = words_of(given, found)
                self.assertTrue(words)
                self.assertTrue(all(is_form(word) for word in words))
                self.assertIs(derives(given, words, label, found), True)
            else:
                self.assertIsNone(found)
            self.assertEqual(content(given), kept)
            return found

    def check_all(self, given, wanted):
        """Check that exactly these labels of the grammar have an example."""
        for label in every_label(given):
            self.check(given, label, label in wanted)


class Words(ExampleTest):
    def test_a_label_of_a_word(self):
        given = make([], [("s", ())], [], [morph("a")], [("q", "k", "r")], [("r", "s")], first="q")
        self.assertEqual(self.check(given, S), [("word", S, (0,))])

    def test_no_first_state(self):
        given = make([("num", ("sg", "pl"))], [("s", ()), ("n", ("num",))], [rule(S, n("*"))], [morph("a")], [("q", "k", "q")],
                     [("q", "s"), ("q", "n")], start="s")
        self.check_all(given, [])

    def test_what_is_missing(self):
        parts = {"categories": [("s", ())], "morphs": [morph("a")], "arcs": [("q", "k", "r")], "ends": [("r", "s")],
                 "first": "q"}
        self.check(make(**parts), S)
        for left_out in ("morphs", "arcs", "ends", "first"):
            self.check(make(**{name: parts[name] for name in parts if name != left_out}), S, False)
        self.check(make(**{**parts, "arcs": [("q", "m", "r"), ("r", "k", "q")]}), S, False)
        self.check(make(**{**parts, "ends": [("q", "s")]}), S, False)
        self.check(make(**{**parts, "first": "r"}), S, False)

    def test_the_empty_row_has_no_label(self):
        given = make([], [("s", ())], [], [morph("a")], [("q", "k", "r")], [("q", "s")], first="q")
        self.check(given, S, False)
        given.add_arc("r", "k", "q")
        self.assertEqual(self.check(given, S), [("word", S, (0, 0))])

    def test_an_end_that_only_some_states_have(self):
        categories = [(f"c{k}", ()) for k in range(6)]
        arcs = [(f"q{k}", "k", f"q{k + 1}") for k in range(5)]
        given = make([], categories, [], [morph("b", "m"), morph("a")], arcs, [(f"q{k}", f"c{k}") for k in range(6)], first="q0")
        self.check(given, ("c0", ()), False)
        for k in range(1, 6):
            self.assertEqual(self.check(given, (f"c{k}", ())), [("word", (f"c{k}", ()), (1,) * k)])

    def test_marks(self):
        given = make([("num", ("sg", "pl", "du"))], [("n", ("num",)), ("s", ())], [],
                     [morph("a", "k", ("num", "sg")), morph("b", "k", ("num", "pl"))], [("q", "k", "q")],
                     [("q", "n"), ("q", "s")], first="q")
        self.check_all(given, [n("sg"), n("pl"), S])
        given.add_morph("c", "k")
        self.check_all(given, every_label(given))

    def test_marks_of_two_morphs(self):
        values = ("x", "y", "z")
        given = make([("one", values), ("two", values)], [("c", ("two", "one"))], [],
                     [morph("a", "k", ("one", "x")), morph("b", "k", ("one", "y")), morph("c", "m", ("two", "z")),
                      morph("d", "m", ("two", "y"), ("one", "x"))],
                     [("q", "k", "r"), ("r", "m", "p")], [("p", "c")], first="q")
        self.check_all(given, [("c", ("z", "x")), ("c", ("z", "y")), ("c", ("y", "x"))])

    def test_a_conflict_in_an_attribute_that_the_category_does_not_have(self):
        given = make([("num", ("sg", "pl"))], [("s", ()), ("t", ())], [],
                     [morph("a", "k", ("num", "sg")), morph("b", "m", ("num", "pl")), morph("c", "h", ("num", "sg"))],
                     [("q", "k", "r"), ("r", "m", "p"), ("r", "h", "o")], [("p", "s"), ("o", "t")], first="q")
        self.check_all(given, [T])

    def test_a_longer_row_than_the_shortest_one(self):
        # The shortest rows to the state have a mark that the label does not have, or that is in conflict later.
        given = make([("num", ("sg", "pl"))], [("n", ("num",)), ("s", ())], [],
                     [morph("a", "k", ("num", "sg")), morph("b", "m"), morph("c", "h", ("num", "pl"))],
                     [("q", "k", "r"), ("q", "m", "p"), ("p", "m", "r"), ("r", "h", "o")], [("r", "n"), ("o", "s")], first="q")
        self.check_all(given, [n("sg"), n("pl"), S])
        self.assertEqual(example(given, n("pl")), [("word", n("pl"), (1, 1))])
        self.assertEqual(example(given, S), [("word", S, (1, 1, 2))])

    def test_the_marks_of_a_row_that_comes_later_are_fewer(self):
        given = make([("num", ("sg", "pl")), ("case", ("nom", "acc"))], [("c", ("num", "case"))], [],
                     [morph("a", "k", ("num", "sg"), ("case", "nom")), morph("b", "k", ("case", "acc")),
                      morph("c", "m", ("num", "pl")), morph("d", "m")],
                     [("q", "k", "r"), ("q", "m", "p"), ("p", "k", "r"), ("r", "m", "r")], [("r", "c")], first="q")
        self.check_all(given, every_label(given)[:0] + [("c", ("sg", "nom")), ("c", ("sg", "acc")), ("c", ("pl", "acc"))])

    def test_arcs_that_lead_round(self):
        given = make([], [("s", ()), ("t", ()), ("u", ())], [rule(U, U)][:0], [morph("a"), morph("b", "m")],
                     [("q", "k", "r"), ("r", "k", "q"), ("r", "m", "p"), ("p", "k", "p"), ("p", "m", "q")],
                     [("q", "s"), ("p", "t"), ("z", "u")], first="q")
        self.check_all(given, [S, T])
        given = make([("num", ("sg", "pl"))], [("n", ("num",))], [], [morph("a", "k", ("num", "sg")), morph("b", "m")],
                     [("q", "k", "q"), ("q", "m", "q")], [("q", "n")], first="q")
        self.check_all(given, [n("sg"), n("pl")])

    def test_seams_matter_for_no_row(self):
        given = make([], [("s", ())], [], [morph("ab", "m"), morph("bcde")], [("q", "m", "r"), ("r", "k", "p")], [("p", "s")],
                     [("ab", "b", "")], first="q")
        self.assertEqual(words_of(given, self.check(given, S)), ["cde"])

    def test_many_attributes(self):
        # Far too many sets of marks to look at each of them.
        names = [f"x{k}" for k in range(30)]
        marks = [(name, value) for name in names for value in ("u", "v", "w")]
        given = make([(name, ("u", "v", "w", "z")) for name in names], [("s", names[3:6]), ("t", names[7:8]), ("u", ())], [],
                     [morph("a", "k", mark) for mark in marks], [("q", "k", "q")], [("q", "s"), ("q", "t")], first="q")
        for label in [*every_label(given)[::13], every_label(given)[-2]]:
            self.check(given, label)
        self.check(given, U, False)
        given = make([(name, ("u", "v")) for name in names], [("s", names[:3])], [],
                     [morph("a", f"k{k}", (name, value)) for k, name in enumerate(names) for value in "uv"][:16],
                     [(f"q{k}", f"k{k}", f"q{k + 1}") for k in range(30)], [("q8", "s")], first="q0")
        self.check_all(given, every_label(given))

    def test_a_long_row(self):
        many = 1500
        given = make([], [("s", ())], [], [morph("a")], [(f"q{k}", "k", f"q{k + 1}") for k in range(many)],
                     [(f"q{many}", "s")], first="q0")
        self.assertEqual(self.check(given, S), [("word", S, (0,) * many)])


class Rules(ExampleTest):
    def lexicon(self, rules, attributes=(), categories=(("s", ()), ("t", ()), ("u", ())), ends=("u",), marks=()):
        return make(attributes, categories, rules, [morph("a", "k", *marks)], [("q", "k", "r")],
                    [("r", category) for category in ends], [], None, "q")

    def test_one_part(self):
        self.check_all(self.lexicon([rule(S, T), rule(T, U)]), [S, T, U])
        self.check_all(self.lexicon([rule(T, U), rule(S, T)]), [S, T, U])
        self.check_all(self.lexicon([rule(T, S)]), [U])

    def test_several_parts(self):
        for many in (2, 3, 4):
            self.check_all(self.lexicon([rule(S, *[U] * many)]), [S, U])
            self.check_all(self.lexicon([rule(S, *[U] * (many - 1), T)]), [U])
            self.check_all(self.lexicon([rule(S, T, *[U] * (many - 1))]), [U])
        found = self.check(self.lexicon([rule(T, U, U), rule(S, T, U, T)]), S)
        leaf, two = ("word", U, (0,)), ("rule", 0, T)
        self.assertEqual(found, [("rule", 1, S), two, leaf, leaf, leaf, two, leaf, leaf])

    def test_rules_that_need_one_another(self):
        self.check_all(self.lexicon([rule(S, T, T), rule(T, S, S)]), [U])
        self.check_all(self.lexicon([rule(S, S, U), rule(T, T)][:1]), [U])
        self.check_all(self.lexicon([rule(S, T, T), rule(T, S, S), rule(S, U)]), [S, T, U])
        self.check_all(self.lexicon([rule(S, S, S), rule(S, U, U), rule(T, S, T)]), [S, U])

    def test_values(self):
        attributes, categories = [("num", ("sg", "pl", "du"))], [("n", ("num",)), ("m", ("num",)), ("s", ())]

        def m(num):
            return ("m", (num,))
        for one, wanted in (
            (rule(m("?x"), n("?x")), [m("sg")]),
            (rule(m("?x"), n("?y")), [m("sg"), m("pl"), m("du")]),
            (rule(m("*"), n("sg")), [m("sg"), m("pl"), m("du")]),
            (rule(m("pl"), n("*")), [m("pl")]),
            (rule(m("pl"), n("pl")), []),
            (rule(m("?x"), n("?x"), n("?x")), [m("sg")]),
            (rule(m("?x"), n("?x"), n("pl")), []),
            (rule(m("?y"), n("?x"), n("?x"), n("*"), n("?z")), [m("sg"), m("pl"), m("du")]),
        ):
            given = self.lexicon([one], attributes, categories, ["n"], [("num", "sg")])
            self.check_all(given, [n("sg"), *wanted])

    def test_variables_that_stand_only_in_the_parts(self):
        attributes, categories = [("num", ("sg", "pl"))], [("n", ("num",)), ("m", ("num",)), ("s", ()), ("t", ())]
        given = make(attributes, categories, [rule(S, ("n", ("?x",)), ("m", ("?x",))), rule(T, ("n", ("?x",)), ("n", ("?x",)), S)],
                     [morph("a", "k", ("num", "sg")), morph("b", "m", ("num", "pl")), morph("c", "h", ("num", "sg"))],
                     [("q", "k", "r"), ("q", "m", "p")], [("r", "n"), ("p", "m"), ("o", "m")], [], None, "q")
        self.check_all(given, [n("sg"), ("m", ("pl",))])
        given.add_arc("q", "h", "o")
        self.check_all(given, [n("sg"), ("m", ("pl",)), ("m", ("sg",)), S, T])
        self.assertEqual(words_of(given, example(given, S)), ["a", "c"])

    def test_a_choice_of_one_part_that_only_a_later_part_decides(self):
        attributes = [("a", ("x", "y", "z")), ("b", ("x", "y", "z"))]
        for last in product("xyz", repeat=2):
            given = make(attributes, [("c", ("a", "b")), ("d", ("a",)), ("e", ("b",)), ("s", ())],
                         [rule(S, ("c", ("?m", "?n")), ("d", ("?m",)), ("e", ("?n",)))],
                         [morph("u"), morph("v", "m", ("a", last[0])), morph("w", "h", ("b", last[1]))],
                         [("q", "k", "r"), ("q", "m", "p"), ("q", "h", "o")], [("r", "c"), ("p", "d"), ("o", "e")], first="q")
            self.assertEqual(self.check(given, S)[1], ("word", ("c", last), (0,)))

    def test_labels_of_many_values(self):
        values = ("u", "v", "w", "x", "y", "z")
        attributes = [(name, values) for name in "abc"]
        given = make(attributes, [("c", ("a", "b", "c")), ("d", ("a", "b", "c")), ("s", ())],
                     [rule(("d", ("?x", "?y", "?z")), *[("c", ("?x", f"?p{k}", f"?q{k}")) for k in range(4)]),
                      rule(S, ("d", ("?x", "?y", "?z")), ("d", ("?x", "?y", "?z")), ("c", ("u", "?y", "?z")))],
                     [morph("a")], [("q", "k", "r")], [("r", "c")], first="q")
        for label in every_label(given)[::40] + [S]:
            self.check(given, label)

    def test_a_small_derivation_among_great_ones(self):
        # By the first rules, which need fewer steps one above the other, the derivation would have 2 ** 60 words.
        categories = [(f"c{k}", ()) for k in range(61)] + [("d", ()), *[(f"d{k}", ()) for k in range(100)]]
        rules = [rule((f"c{k + 1}", ()), (f"c{k}", ()), (f"c{k}", ())) for k in range(60)]
        rules += [rule((f"d{k + 1}", ()), (f"d{k}", ())) for k in range(99)] + [rule(("c60", ()), ("d99", ()))]
        given = make([], categories, rules, [morph("a")], [("q", "k", "r")], [("r", "c0"), ("r", "d0")], first="q")
        self.assertEqual(len(self.check(given, ("c60", ()))), 101)
        self.assertEqual(len(self.check(given, ("c5", ()))), 63)
        self.check(given, ("d", ()), False)

    def test_a_small_child_among_great_ones(self):
        categories = [(f"c{k}", ()) for k in range(61)] + [("n", ("num",)), ("s", ()), ("t", ()), ("u", ())]
        rules = [rule((f"c{k + 1}", ()), (f"c{k}", ()), (f"c{k}", ())) for k in range(60)]
        for first, last in (("sg", "pl"), ("pl", "sg")):
            more = [rule(n(first), ("c60", ())), rule(n(last), T, T, T), rule(T, ("c0", ()), U), rule(S, n("*"), n("?x")),
                    rule(U, ("c0", ()))]
            given = make([("num", ("sg", "pl"))], categories, rules + more, [morph("a")], [("q", "k", "r")],
                         [("r", "c0")], first="q")
            self.assertEqual(len(self.check(given, n(last))), 13)
            self.assertEqual(len(self.check(given, S)), 27)

    def test_a_long_chain(self):
        many = 300
        categories = [(f"c{k}", ()) for k in range(many)]
        rules = [rule((f"c{k}", ()), (f"c{k + 1}", ()), (f"c{many - 1}", ())) for k in range(many - 1)]
        given = make([], categories, rules, [morph("a")], [("q", "k", "r")], [("r", f"c{many - 1}")], first="q")
        self.assertEqual(len(self.check(given, ("c0", ()))), 2 * many - 1)


class Whole(ExampleTest):
    def test_a_grammar_that_has_nothing_but_a_category(self):
        given = Grammar()
        given.add_category("s", [])
        self.check(given, S, False)
        given.set_start("s")
        given.set_first("q")
        self.check(given, S, False)

    def test_the_list_is_a_new_one(self):
        given = make([], [("s", ()), ("t", ())], [rule(S, T, T)], [morph("a")], [("q", "k", "r")], [("r", "t")], first="q")
        wanted = [("rule", 0, S), ("word", T, (0,)), ("word", T, (0,))]
        for _ in range(2):
            found = example(given, S)
            self.assertEqual(found, wanted)
            found.clear()
            example(given, T).append("more")

    def test_against_the_document(self):
        chance = random.Random(81)
        some = none = 0
        for _ in range(150):
            given = some_language(chance)
            # No more states and marks than this differ.
            wanted = plain_derived(given, 4)
            self.check_all(given, wanted)
            some += len(wanted)
            none += len(every_label(given)) - len(wanted)
        self.assertGreater(min(some, none), 100)

    def test_many_marks_against_the_document(self):
        chance = random.Random(83)
        some = none = 0
        for _ in range(120):
            given = some_grammar(chance)
            for _ in range(chance.randrange(4)):
                add_some_rule(given, chance, (0,))
            wanted = plain_derived(given, 5)
            self.check_all(given, wanted)
            some += len(wanted)
            none += len(every_label(given)) - len(wanted)
        self.assertGreater(min(some, none), 50)

    def test_the_words_of_a_row_are_its_text(self):
        chance = random.Random(89)
        for _ in range(30):
            given = some_grammar(chance)
            for label in every_label(given):
                found = example(given, label)
                if found and found[0][0] == "word":
                    self.assertIn(label, plain_labels(given, found[0][2]))
                    self.assertEqual(words_of(given, found), [plain_text(given, found[0][2])])


if __name__ == "__main__":
    unittest.main()
