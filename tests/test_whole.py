"""Tests of the whole program (point 1): its parts agree with the document and with one another."""

import random
import unittest
from itertools import product

from helpers import content, make
from plain import every_label
from plain_readings import (PlainOrder, PlainReadings, add_some_rule, label_of, plain_cost, plain_gloss, plain_table,
                            some_language, some_words)
from readingsall.certify import accepts
from readingsall.chart import table
from readingsall.derivations import cost, derives, gloss, is_reading, words_of
from readingsall.errors import Duplicate, NoReading
from readingsall.examples import example
from readingsall.language import read_derivation, read_grammar, same_grammar, write_derivation, write_grammar
from readingsall.names import join_words, split_text
from readingsall.ranking import Ranking

MOST = 100


def some_case(chance, costs=(0, 0, 1, 2), least=0):
    """A grammar and words with at least and not very many readings."""
    while True:
        given = some_language(chance, costs)
        words = some_words(chance, given)
        if least <= Ranking(given, words).reading_count <= MOST:
            return given, words


def all_readings(given, words):
    return list(Ranking(given, words).readings(0))


class Agree(unittest.TestCase):
    def test_all_parts_with_the_slow_version(self):
        chance = random.Random(101)
        for _ in range(60):
            given, words = some_case(chance, least=chance.choice([0, 1, 3]))
            with self.subTest(words=words, grammar=content(given)):
                kept = content(given)
                plain = PlainReadings(given)
                readings = PlainOrder(given, words).sorted(plain.readings(words))
                self.assertEqual(all_readings(given, words), readings)
                self.check_tables(given, words)
                self.check_derivations(given, words, plain)
                for reading in readings:
                    self.check_reading(given, words, reading)
                self.assertEqual(content(given), kept)

    def check_tables(self, given, words):
        pair = plain_table(given, words)
        self.assertEqual(table(given, words), pair)
        self.assertEqual(Ranking(given, words).table(), pair)
        self.assertIs(accepts(given, words, pair), True)
        self.assertIs(accepts(given, words, Ranking(given, words).table()), True)
        if pair[1]:
            self.assertIs(accepts(given, words, (pair[0], pair[1][1:])), False)
        self.assertIs(accepts(given, words[::-1], pair), pair == plain_table(given, words[::-1]))

    def check_derivations(self, given, words, plain):
        """A cell is in the table exactly if its label is derived from its words, and each derivation is taken."""
        there = {cell[:3] for cell in table(given, words)[1]}
        for first in range(len(words)):
            for last in range(first + 1, len(words) + 1):
                for label in every_label(given):
                    found = plain.derivations(words[first:last], label)
                    self.assertIs((first, last, label) in there, found != [])
                    for derivation in found[:5]:
                        self.assertIs(derives(given, words[first:last], label, derivation), True)
                        self.assertEqual(read_derivation(write_derivation(derivation)), derivation)
        for label in every_label(given):
            if plain.derivations(words, label):
                self.assertIsNotNone(example(given, label))

    def check_reading(self, given, words, reading):
        self.assertIs(is_reading(given, words, reading), True)
        self.assertIs(derives(given, words, label_of(reading), reading), True)
        self.assertEqual(label_of(reading)[0], given.start)
        self.assertEqual(cost(given, reading), plain_cost(given, reading))
        self.assertEqual(gloss(given, reading), plain_gloss(given, reading))
        self.assertEqual(words_of(given, reading), words)
        self.assertEqual(split_text(join_words(words_of(given, reading))), words)
        self.assertEqual(read_derivation(write_derivation(reading)), reading)

    def test_of_all_lists_of_nodes_exactly_the_readings_are_taken(self):
        given = make([("num", ("sg", "pl"))], [("s", ()), ("n", ("num",))],
                     [(("s", ()), (("n", ("?x",)), ("n", ("?x",))), 1, ()), (("s", ()), (("n", ("pl",)),), 0, ()),
                      (("n", ("sg",)), (("s", ()), ("n", ("*",))), 0, ())],
                     [("a", "k", (), 1, ""), ("b", "k", (("num", "pl"),), 0, ""), ("a", "k", (), 0, "")],
                     [("q", "k", "r"), ("r", "k", "r")], [("r", "n")], [], "s", "q")
        labels = every_label(given)
        nodes = [("rule", number, label) for number in range(3) for label in labels]
        nodes += [("word", label, row) for label in labels for row in ((0,), (1,), (2, 1))]
        for words in (["a"], ["ab"], ["a", "b"], ["b", "a", "ab"][:2]):
            ranking = Ranking(given, words)
            found = []
            for many in range(5):
                for derivation in product(nodes, repeat=many) if many < 4 else []:
                    derivation = list(derivation)
                    if is_reading(given, words, derivation):
                        found.append(derivation)
                        self.assertEqual(ranking.reading(ranking.number(derivation)), derivation)
                    else:
                        with self.assertRaises(NoReading):
                            ranking.number(derivation)
            short = [one for one in ranking.readings(0) if len(one) < 4 and all(node in nodes for node in one)]
            self.assertEqual(sorted(found, key=ranking.number), short)
            self.assertTrue(found)

    def test_the_readings_of_an_example(self):
        chance = random.Random(103)
        seen = 0
        while seen < 60:
            given = some_language(chance)
            for label in every_label(given):
                found = example(given, label)
                if found is not None and len(words_of(given, found)) <= 5:
                    seen += 1
                    words = words_of(given, found)
                    given.set_start(label[0])
                    ranking = Ranking(given, words)
                    self.assertEqual(ranking.reading(ranking.number(found)), found)
                    self.assertIs(is_reading(given, words, found), True)
                    self.assertIn((0, len(words), label), [cell[:3] for cell in ranking.table()[1]])


class Lines(unittest.TestCase):
    def test_a_grammar_that_was_written_and_read(self):
        chance = random.Random(107)
        for _ in range(60):
            given, words = some_case(chance)
            other = read_grammar(write_grammar(given))
            self.assertIs(same_grammar(given, other), True)
            self.assertEqual(all_readings(other, words), all_readings(given, words))
            self.assertEqual(table(other, words), table(given, words))
            self.assertIs(accepts(other, words, table(given, words)), True)
            for label in every_label(given):
                self.assertEqual(example(other, label), example(given, label))

    def test_readings_that_were_written_and_read(self):
        chance = random.Random(109)
        for _ in range(30):
            given, words = some_case(chance, least=2)
            ranking = Ranking(given, words)
            for number, reading in enumerate(ranking.readings(0)):
                self.assertEqual(ranking.number(read_derivation(write_derivation(reading))), number)


class More(unittest.TestCase):
    """What is added takes no reading away, and leaves the order of the others as it is."""

    def check(self, given, other, words):
        before, after = all_readings(given, words), Ranking(other, words)
        numbers = [after.number(reading) for reading in before]
        self.assertEqual(len(set(numbers)), len(before))
        for reading in before:
            self.assertIs(is_reading(other, words, reading), True)
        self.assertLessEqual(len(before), after.reading_count)
        return after.reading_count > len(before), numbers == sorted(numbers)

    def check_many(self, add):
        chance = random.Random(113)
        grown = 0
        for _ in range(80):
            given, words = some_case(chance, least=1)
            other = read_grammar(write_grammar(given))
            add(other, chance)
            more, in_order = self.check(given, other, words)
            grown += more
            # New stages, cells and rules stand among the old ones or behind them, but exchange none.
            self.assertIs(in_order, True)
        self.assertGreater(grown, 3)

    def test_a_rule(self):
        self.check_many(lambda given, chance: [add_some_rule(given, chance, (0, 1)) for _ in range(3)])

    def test_a_morph(self):
        def add(given, chance):
            given.add_morph(chance.choice(["a", "ab", "ba"]) + "b" * chance.randrange(2), chance.choice("km"), cost=chance.randrange(2))
        self.check_many(lambda given, chance: given.seams() or add(given, chance))

    def test_an_arc(self):
        def add(given, chance):
            there = [arc[:2] for arc in given.arcs()]
            for state, kind in product("qr", "km"):
                if (state, kind) not in there:
                    given.add_arc(state, kind, chance.choice("qr"))
        self.check_many(add)

    def test_an_end(self):
        def add(given, chance):
            try:
                given.add_end(chance.choice("qr"), chance.choice("snx"))
            except Duplicate:
                pass
        self.check_many(add)


class Changes(unittest.TestCase):
    def test_all_costs_times_a_number(self):
        chance = random.Random(127)
        for _ in range(40):
            given, words = some_case(chance, (0, 1, 2, 3), least=2)
            parts = (given.attributes(), given.categories(), given.arcs(), given.ends(), given.seams())
            for times in (2, 7, 333):
                rules = [(pattern, patterns, one * times, row) for pattern, patterns, one, row in given.rules()]
                morphs = [(text, kind, marks, one * times, sign) for text, kind, marks, one, sign in given.morphs()]
                other = make(parts[0], parts[1], rules, morphs, *parts[2:], given.start, given.first)
                self.assertEqual(all_readings(other, words), all_readings(given, words))
                self.assertEqual(Ranking(other, words).by_cost(),
                                 [(one * times, many) for one, many in Ranking(given, words).by_cost()])

    def test_other_names_with_the_same_order(self):
        chance = random.Random(131)
        for _ in range(40):
            given, words = some_case(chance, least=2)
            for new in (lambda name: "x" + name, lambda name: name + "0", lambda name: f"a{name}b"):
                other = self.renamed(given, new)
                self.assertEqual(all_readings(other, words),
                                 [self.named(reading, new) for reading in all_readings(given, words)])
                self.assertEqual(Ranking(other, words).by_cost(), Ranking(given, words).by_cost())

    def renamed(self, given, new):
        def pattern(one):
            return (new(one[0]), tuple("*" if term == "*" else "?z" + term[1:] if term[0] == "?" else new(term) for term in one[1]))
        return make(
            [(new(name), [new(value) for value in values]) for name, values in given.attributes()],
            [(new(name), [new(one) for one in names]) for name, names in given.categories()],
            [(pattern(left), tuple(pattern(part) for part in parts), one, row) for left, parts, one, row in given.rules()],
            [(text, new(kind), tuple((new(name), new(value)) for name, value in marks), one, sign)
             for text, kind, marks, one, sign in given.morphs()],
            [tuple(new(name) for name in arc) for arc in given.arcs()],
            [tuple(new(name) for name in end) for end in given.ends()],
            given.seams(), new(given.start), new(given.first))

    def named(self, derivation, new):
        found = []
        for node in derivation:
            category, values = label_of([node])
            label = (new(category), tuple(new(value) for value in values))
            found.append(("rule", node[1], label) if node[0] == "rule" else ("word", label, node[2]))
        return found

    def test_other_letters_with_the_same_order(self):
        chance = random.Random(137)
        letters = str.maketrans("ab", "my")
        for _ in range(40):
            given, words = some_case(chance, least=2)
            lines = write_grammar(given)
            changed = []
            for line in lines:
                kind, *rest = line.split(" ")
                many = {"seam": 3, "morph": 1}.get(kind, 0)
                changed.append(" ".join([kind, *[token.translate(letters) for token in rest[:many]], *rest[many:]]))
            other = read_grammar(changed)
            self.assertEqual(all_readings(other, [word.translate(letters) for word in words]), all_readings(given, words))


if __name__ == "__main__":
    unittest.main()
