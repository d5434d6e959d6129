"""Tests of readingsall.language: derivations as lines (points 14 and 28)."""

import copy
import random
import unittest

from helpers import NO_NAMES
from plain import every_label
from plain_readings import PlainReadings, some_language, some_words
from readingsall.errors import BadLine
from readingsall.language import read_derivation, write_derivation

S = ("s", ())
LONG = "a" * 12

# Each kind of node, with its line.
NODES = [
    (("rule", 0, S), "rule 0 s"),
    (("rule", 7, ("np", ("pl", "nom"))), "rule 7 np pl nom"),
    (("rule", 999999999, ("n", ("sg",))), "rule 999999999 n sg"),
    (("rule", 100000000, (LONG, (LONG, "z9"))), f"rule 100000000 {LONG} {LONG} z9"),
    (("rule", 10, ("rule", ("rule", "word"))), "rule 10 rule rule word"),
    (("rule", 10, ("word", ("word", "rule", "rule"))), "rule 10 word word rule rule"),
    (("rule", 3, ("a", tuple("abcdefghij"))), "rule 3 a a b c d e f g h i j"),
    (("word", S, ()), "word s :"),
    (("word", S, (0,)), "word s : 0"),
    (("word", S, (0, 0, 999999999)), "word s : 0 0 999999999"),
    (("word", ("n", ("sg",)), (5, 12, 999, 1000)), "word n sg : 5 12 999 1000"),
    (("word", ("word", ("rule", "word")), (1,)), "word word rule word : 1"),
    (("word", ("rule", ()), ()), "word rule :"),
    (("word", ("a", tuple("abcdefghij")), (10,) * 20), "word a a b c d e f g h i j : " + " ".join(["10"] * 20)),
    (("word", (LONG, (LONG,)), (123456789, 987654321)), f"word {LONG} {LONG} : 123456789 987654321"),
]


class LinesTest(unittest.TestCase):
    def check(self, derivation, lines):
        with self.subTest(derivation=derivation):
            kept = (copy.deepcopy(derivation), list(lines))
            written, read = write_derivation(derivation), read_derivation(lines)
            self.assertEqual((written, read), (lines, derivation))
            self.assertEqual((type(written), type(read)), (list, list))
            for node in read:
                self.assertEqual([type(item) for item in node],
                                 [str, int, tuple] if node[0] == "rule" else [str, tuple, tuple])
                label = node[2] if node[0] == "rule" else node[1]
                self.assertEqual([type(item) for item in label], [str, tuple])
            self.assertEqual((derivation, lines), kept)

    def refuse(self, line):
        """The line has none of the forms, wherever it stands."""
        good = [text for _, text in NODES]
        for lines, index in (([line], 0), ([line, line, ""], 0), (good + [line], len(good)), (good[:3] + [line] + good, 3)):
            with self.subTest(lines=lines):
                kept = list(lines)
                with self.assertRaises(BadLine) as held:
                    read_derivation(lines)
                self.assertIs(type(held.exception), BadLine)
                self.assertEqual(held.exception.line, index)
                self.assertEqual(lines, kept)


class There(LinesTest):
    def test_no_nodes(self):
        self.check([], [])

    def test_each_node_alone(self):
        for node, line in NODES:
            self.check([node], [line])

    def test_several_nodes_in_order(self):
        nodes, lines = [node for node, _ in NODES], [line for _, line in NODES]
        self.check(nodes, lines)
        self.check(nodes[::-1], lines[::-1])
        self.check(nodes * 3, lines * 3)

    def test_the_nodes_need_not_describe_a_tree(self):
        self.check([NODES[0][0]] * 2, [NODES[0][1]] * 2)
        self.check([("word", S, ()), ("rule", 0, S)], ["word s :", "rule 0 s"])

    def test_numbers(self):
        for number in (0, 1, 9, 10, 11, 99, 100, 101, 1000, 12345678, 99999999, 100000000, 999999999):
            self.check([("rule", number, S)], [f"rule {number} s"])
            self.check([("word", S, (number, 0, number))], [f"word s : {number} 0 {number}"])

    def test_names(self):
        for name in ("a", "z", "a0", "z9", LONG, "a" + "0" * 11, "word", "rule", "attribute", "start"):
            self.check([("rule", 0, (name, (name, name)))], [f"rule 0 {name} {name} {name}"])
            self.check([("word", (name, (name, name)), (0,))], [f"word {name} {name} {name} : 0"])

    def test_many_nodes(self):
        self.check([node for node, _ in NODES] * 200, [line for _, line in NODES] * 200)

    def test_there_and_back(self):
        chance = random.Random(97)
        seen = 0
        while seen < 200:
            given = some_language(chance)
            words = some_words(chance, given, 3)
            plain = PlainReadings(given)
            for label in every_label(given):
                found = plain.derivations(words, label)
                for derivation in chance.sample(found, min(len(found), 5)):
                    seen += 1
                    self.check(derivation, write_derivation(derivation))

    def test_the_lists_are_new_ones(self):
        nodes, lines = [node for node, _ in NODES], [line for _, line in NODES]
        write_derivation(nodes).clear()
        read_derivation(lines).clear()
        self.check(nodes, lines)


class BadLines(LinesTest):
    def test_no_form(self):
        for line in ("", " ", "  ", "rule", "word", "rule ", "word ", ":", "0", "rule 0", "rule s", "word s", "word :", "word : 0", "word 0",
                     "word 0 :", "rules 0 s", "words s : 0", "Rule 0 s", "WORD s : 0", "node 0 s", "s", "rule : 0 s", "x rule 0 s",
                     "morph s : 0", "0 s", "s : 0", "rule 0 :", "word : s 0", "word s 0 :", "word s 0 : 0", "rule s 0", "rule 0 0"):
            self.refuse(line)

    def test_numbers(self):
        for number in ("00", "01", "000", "007", "1000000000", "9999999999", "0999999999", "-1", "-0", "+1", "+0", "1_0", "1.0", "1e3", "0x1",
                       "one", "=", "$1", "1,", "*", "10000000000000000000000", "1a", "a1"):
            self.refuse(f"rule {number} s")
            self.refuse(f"rule {number} s sg")
            self.refuse(f"word s : {number}")
            self.refuse(f"word s sg : 0 {number}")
            self.refuse(f"word s sg : {number} 0")

    def test_colons(self):
        for line in ("word s", "word s 0", "word s sg", "word s sg 0 1", "word s : : 0", "word s : 0 :", "word s : 0 : 0", "word s :: 0",
                     "word s: 0", "word s :0", "word s sg: 0", "word : s : 0", "word s : sg : 0", "word s : sg", "word : :", "word s : :",
                     "rule 0 s :", "rule 0 s : 0", "rule 0 : s", "rule : s", "rule 0 s sg :", "word s ; 0", ": word s 0", "word s :: :"):
            self.refuse(line)

    def test_names_that_are_none(self):
        for name in (*[name for name in NO_NAMES if name and " " not in name], "S", "?x", "*", "_", "a_b", "0", "9a", "a" * 13, "~", "a.b",
                     "(s)", "s,"):
            self.refuse(f"rule 0 {name}")
            self.refuse(f"rule 0 {name} sg")
            self.refuse(f"rule 0 s {name}")
            self.refuse(f"rule 0 s sg {name}")
            self.refuse(f"word {name} : 0")
            self.refuse(f"word s {name} : 0")
            self.refuse(f"word s {name} sg : 0")
            self.refuse(f"{name} 0 s")

    def test_blanks(self):
        for _, line in NODES:
            self.refuse(" " + line)
            self.refuse(line + " ")
            self.refuse("  " + line)
            self.refuse(line + "  ")
            for k, char in enumerate(line):
                if char == " ":
                    self.refuse(line[:k] + " " + line[k:])
                    self.refuse(line[:k] + "   " + line[k + 1:])

    def test_the_first_bad_line(self):
        good = [line for _, line in NODES]
        for first in range(0, len(good), 3):
            for bad in ("", "word s", "rule 00 s", "rule 0 S"):
                lines = good[:first] + [bad] + good[first:] + ["worse", ""]
                with self.assertRaises(BadLine) as held:
                    read_derivation(lines)
                self.assertEqual(held.exception.line, first)

    def test_lines_of_grammars(self):
        for line in ("attribute num sg", "category s", "start s", "first q", "arc q k q", "end q s", "seam a b =", "morph a k 0 =",
                     "rule 0 s -> s + s :", "rule 0 s -> t : $1", "rule 0 n ?x"):
            self.refuse(line)


if __name__ == "__main__":
    unittest.main()
