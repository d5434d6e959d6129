"""Tests of readingsall.grammar: attributes, categories, start, first and labels (points 2, 3 and 4)."""

import unittest

from helpers import NO_NAMES, GrammarTest, content, make
from readingsall.errors import BadGrammar, BadName, Duplicate, Unknown
from readingsall.grammar import Grammar

SEVEN = ["a", "b", "c", "d", "e", "f", "g"]


def attributes(*names):
    """A grammar with attributes of these names, and with a category np of the first one."""
    grammar = make([(name, ("x", "y")) for name in names])
    grammar.add_category("np", list(names[:1]))
    return grammar


class Empty(GrammarTest):
    def test_nothing_at_first(self):
        self.assertEqual(content(Grammar()), [[]] * 7 + [None, None])

    def test_no_category_at_first(self):
        for name in ("np", "", "A"):
            self.refuse(Grammar(), Unknown, "labels", name)
            self.refuse(Grammar(), Unknown, "set_start", name)

    def test_grammars_share_nothing(self):
        one, other = attributes("num"), Grammar()
        one.set_start("np")
        one.set_first("q")
        one.add_rule(("np", ("x",)), (("np", ("y",)),))
        one.add_morph("cat", "noun")
        one.add_arc("q", "noun", "r")
        one.add_end("r", "np")
        one.add_seam("a", "b", "")
        self.assertEqual(content(other), [[]] * 7 + [None, None])

    def test_calls_that_return_nothing(self):
        grammar = Grammar()
        self.assertIsNone(grammar.add_attribute("num", ["sg"]))
        self.assertIsNone(grammar.add_category("np", ["num"]))
        self.assertIsNone(grammar.set_start("np"))
        self.assertIsNone(grammar.set_first("q"))
        self.assertIsNone(grammar.add_arc("q", "noun", "r"))
        self.assertIsNone(grammar.add_end("r", "np"))
        self.assertIsNone(grammar.add_seam("a", "b", "c"))


class Attributes(GrammarTest):
    def test_in_their_order_with_their_values(self):
        grammar = Grammar()
        wanted = []
        for name, values in (("num", ("sg", "pl")), ("case", ("nom", "acc", "dat")), ("a1", ("z", "a"))):
            grammar.add_attribute(name, list(values))
            wanted.append((name, values))
            self.assertEqual(grammar.attributes(), wanted)
        self.assertEqual([type(values) for _, values in grammar.attributes()], [tuple] * 3)

    def test_one_to_six_values(self):
        for many in range(1, 7):
            grammar = Grammar()
            grammar.add_attribute("num", SEVEN[:many])
            self.assertEqual(grammar.attributes(), [("num", tuple(SEVEN[:many]))])

    def test_no_values_and_more_than_six(self):
        for grammar in (Grammar(), attributes("case")):
            self.refuse(grammar, BadGrammar, "add_attribute", "num", [])
            self.refuse(grammar, BadGrammar, "add_attribute", "num", SEVEN)
            self.refuse(grammar, BadGrammar, "add_attribute", "num", [f"a{k}" for k in range(100)])

    def test_long_names(self):
        grammar = Grammar()
        grammar.add_attribute("a" * 12, ["b" * 12])
        self.assertEqual(grammar.attributes(), [("a" * 12, ("b" * 12,))])

    def test_one_value_in_two_attributes(self):
        grammar = make([("num", ("sg", "pl")), ("also", ("pl", "sg")), ("pl", ("num", "pl"))])
        self.assertEqual(grammar.attributes(), [("num", ("sg", "pl")), ("also", ("pl", "sg")), ("pl", ("num", "pl"))])

    def test_bad_names(self):
        for text in NO_NAMES:
            grammar = attributes("case")
            self.refuse(grammar, BadName, "add_attribute", text, ["sg", "pl"])
            for place in range(3):
                values = ["sg", "pl"]
                values.insert(place, text)
                self.refuse(grammar, BadName, "add_attribute", "num", values)

    def test_duplicates(self):
        grammar = attributes("case", "num")
        self.refuse(grammar, Duplicate, "add_attribute", "case", ["sg"])
        self.refuse(grammar, Duplicate, "add_attribute", "num", ["x", "y"])
        self.refuse(grammar, Duplicate, "add_attribute", "new", ["sg", "sg"])
        self.refuse(grammar, Duplicate, "add_attribute", "new", ["sg", "pl", "du", "sg"])

    def test_several_errors(self):
        grammar = attributes("case")
        for name, values, wanted in (
            ("A", [], BadName),
            ("A", SEVEN, BadName),
            ("A", ["sg", "sg"], BadName),
            ("num", ["sg", "sg", "A"], BadName),
            ("num", ["A", "A"], BadName),
            ("case", ["A"], BadName),
            ("case", ["sg", "sg", "A"], BadName),
            ("num", [*SEVEN, "A"], BadName),
            ("case", ["A", *SEVEN, "a"], BadName),
            ("case", [], Duplicate),
            ("case", SEVEN, Duplicate),
            ("num", [*SEVEN, "a"], Duplicate),
            ("num", ["a"] * 7, Duplicate),
        ):
            self.refuse(grammar, wanted, "add_attribute", name, values)

    def test_a_refused_one_may_be_added_rightly_then(self):
        grammar = Grammar()
        self.refuse(grammar, BadGrammar, "add_attribute", "num", [])
        grammar.add_attribute("num", ["sg"])
        self.refuse(grammar, Duplicate, "add_attribute", "num", ["sg"])
        self.assertEqual(grammar.attributes(), [("num", ("sg",))])


class Categories(GrammarTest):
    def test_in_their_order_with_their_attributes(self):
        grammar = attributes("num", "case", "tense", "mood")
        wanted = [("np", ("num",))]
        for name, names in (("s", ()), ("vp", ("tense", "num")), ("a", ("mood", "case", "num")), ("num", ("num",))):
            grammar.add_category(name, list(names))
            wanted.append((name, names))
            self.assertEqual(grammar.categories(), wanted)
        self.assertEqual([type(names) for _, names in grammar.categories()], [tuple] * 5)

    def test_none_to_four_attributes(self):
        names = ["num", "case", "tense", "mood", "voice"]
        for many in range(4):
            grammar = attributes(*names)
            grammar.add_category("x", names[:many])
            self.assertEqual(grammar.categories()[1], ("x", tuple(names[:many])))
        for many in (4, 5):
            self.refuse(attributes(*names), BadGrammar, "add_category", "x", names[:many])

    def test_a_long_name(self):
        grammar = Grammar()
        grammar.add_category("c" * 12, [])
        self.assertEqual(grammar.categories(), [("c" * 12, ())])

    def test_bad_names(self):
        for text in NO_NAMES:
            self.refuse(attributes("num"), BadName, "add_category", text, ["num"])
            self.refuse(Grammar(), BadName, "add_category", text, [])

    def test_duplicates(self):
        grammar = attributes("num", "case")
        grammar.add_category("s", [])
        self.refuse(grammar, Duplicate, "add_category", "np", ["num"])
        self.refuse(grammar, Duplicate, "add_category", "np", [])
        self.refuse(grammar, Duplicate, "add_category", "s", ["case"])
        self.refuse(grammar, Duplicate, "add_category", "x", ["num", "num"])
        self.refuse(grammar, Duplicate, "add_category", "x", ["num", "case", "num"])

    def test_unknown_attributes(self):
        grammar = attributes("num", "case")
        for name in ("tense", "np", "x", "", "A", "a b", "num ", "NUM"):
            self.refuse(grammar, Unknown, "add_category", "c", [name])
            self.refuse(grammar, Unknown, "add_category", "c", ["num", name])
            self.refuse(grammar, Unknown, "add_category", "c", ["num", name, "case"])

    def test_several_errors(self):
        names = ["num", "case", "tense", "mood"]
        grammar = attributes(*names)
        for name, passed, wanted in (
            ("A", ["num", "num"], BadName),
            ("A", ["none"], BadName),
            ("A", names, BadName),
            ("A", [*names, "none", "num"], BadName),
            ("np", ["none"], Duplicate),
            ("np", names, Duplicate),
            ("c", ["none", "none"], Duplicate),
            ("c", ["A", "num", "A"], Duplicate),
            ("c", [*names, "num"], Duplicate),
            ("c", ["none", *names, "mood"], Duplicate),
            ("c", [*names, "none"], Unknown),
            ("c", [*names, ""], Unknown),
            ("c", ["none", "nor", "nix", "nay"], Unknown),
        ):
            self.refuse(grammar, wanted, "add_category", name, passed)


class StartAndFirst(GrammarTest):
    def test_the_last_accepted_one(self):
        grammar = attributes("num")
        grammar.add_category("s", [])
        self.assertEqual((grammar.start, grammar.first), (None, None))
        for name in ("np", "s", "s", "np"):
            grammar.set_start(name)
            self.assertEqual(grammar.start, name)
        self.assertIsNone(grammar.first)
        for name in ("q0", "q", "np", "a" * 12):
            grammar.set_first(name)
            self.assertEqual(grammar.first, name)
        self.assertEqual(grammar.start, "np")

    def test_refused_ones(self):
        grammar = attributes("num")
        for name in ("s", "num", "x", "", "NP", "np ", "a b", "A"):
            self.refuse(grammar, Unknown, "set_start", name)
        for name in NO_NAMES:
            self.refuse(grammar, BadName, "set_first", name)
        grammar.set_start("np")
        grammar.set_first("q")
        self.refuse(grammar, Unknown, "set_start", "s")
        for name in NO_NAMES:
            self.refuse(grammar, BadName, "set_first", name)
        self.assertEqual((grammar.start, grammar.first), ("np", "q"))


class Labels(GrammarTest):
    def test_ascending_whatever_the_order_of_the_values(self):
        grammar = make([("num", ("sg", "pl", "du")), ("case", ("nom", "acc")), ("odd", ("b", "a9", "ab", "a", "b0", "a1"))],
                       [("s", ()), ("n", ("num",)), ("np", ("num", "case")), ("rev", ("case", "num")), ("o", ("odd",))])
        self.assertEqual(grammar.labels("s"), [("s", ())])
        self.assertEqual(grammar.labels("n"), [("n", ("du",)), ("n", ("pl",)), ("n", ("sg",))])
        self.assertEqual(grammar.labels("np"),
                         [("np", (num, case)) for num in ("du", "pl", "sg") for case in ("acc", "nom")])
        self.assertEqual(grammar.labels("rev"),
                         [("rev", (case, num)) for case in ("acc", "nom") for num in ("du", "pl", "sg")])
        self.assertEqual(grammar.labels("o"), [("o", (value,)) for value in ("a", "a1", "a9", "ab", "b", "b0")])

    def test_three_attributes_of_six_values(self):
        grammar = make([(name, SEVEN[5::-1]) for name in ("x", "y", "z")], [("c", ("z", "x", "y"))])
        found = grammar.labels("c")
        self.assertEqual(len(found), 216)
        self.assertEqual(found, sorted(set(found)))
        self.assertEqual((found[0], found[-1]), (("c", ("a", "a", "a")), ("c", ("f", "f", "f"))))
        self.assertEqual(found[1], ("c", ("a", "a", "b")))

    def test_unknown(self):
        grammar = attributes("num")
        for name in ("num", "x", "", "NP", "np ", "s"):
            self.refuse(grammar, Unknown, "labels", name)


class Lists(GrammarTest):
    def test_a_change_of_a_passed_list_changes_nothing(self):
        grammar, values, names = Grammar(), ["sg", "pl"], ["num"]
        grammar.add_attribute("num", values)
        grammar.add_category("np", names)
        kept = content(grammar)
        for change in (list.clear, list.reverse, lambda row: row.append("num")):
            change(values)
            change(names)
            self.assertEqual(content(grammar), kept)
        self.assertEqual(grammar.labels("np"), [("np", ("pl",)), ("np", ("sg",))])

    def test_the_calls_change_no_passed_list(self):
        grammar = Grammar()
        values, names = ["sg", "pl", "du"], ["num", "case"]
        grammar.add_attribute("num", values)
        grammar.add_attribute("case", values)
        grammar.add_category("np", names)
        self.refuse(grammar, Duplicate, "add_category", "np", names)
        self.refuse(grammar, Duplicate, "add_attribute", "num", values)
        self.assertEqual((values, names), (["sg", "pl", "du"], ["num", "case"]))

    def test_a_change_of_a_returned_list_changes_nothing(self):
        grammar = attributes("num")
        grammar.add_rule(("np", ("x",)), (("np", ("y",)),))
        grammar.add_morph("cat", "noun")
        grammar.add_arc("q", "noun", "r")
        grammar.add_end("r", "np")
        grammar.add_seam("a", "b", "")
        for method in ("attributes", "categories", "rules", "morphs", "arcs", "ends", "seams"):
            with self.subTest(method):
                kept = content(grammar)
                found, again = getattr(grammar, method)(), getattr(grammar, method)()
                self.assertEqual(len(found), 1)
                self.assertIs(type(found), list)
                self.assertIs(type(found[0]), tuple)
                found.clear()
                self.assertEqual(len(again), 1)
                again.append("more")
                self.assertEqual(content(grammar), kept)
        found = grammar.labels("np")
        found.reverse()
        found.pop()
        self.assertEqual(grammar.labels("np"), [("np", ("x",)), ("np", ("y",))])

    def test_a_returned_list_stays_as_it_is(self):
        grammar = attributes("num")
        found = [grammar.attributes(), grammar.categories()]
        grammar.add_attribute("case", ["nom"])
        grammar.add_category("s", [])
        self.assertEqual(found, [[("num", ("x", "y"))], [("np", ("num",))]])


if __name__ == "__main__":
    unittest.main()
