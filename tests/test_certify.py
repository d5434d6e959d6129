"""Tests of readingsall.certify (points 18, 19 and 20)."""

import copy
import random
import unittest

from helpers import content, make
from plain_readings import plain_table, some_language, some_words
from readingsall.certify import accepts
from readingsall.chart import table
from readingsall.grammar import Grammar

S, T, U = ("s", ()), ("t", ()), ("u", ())
NUMBERS = (-1, -2, 0, 1, 2, 3, 4, 5, 99, 10 ** 30, -10 ** 30)


def rule(pattern, *parts):
    return (pattern, parts, 0, ())


def morph(text, kind="k", *marks):
    return (text, kind, marks, 0, "")


def n(num):
    return ("n", (num,))


def ordinary():
    """Words with several stages, stages with several ways, and cells with several ways of both kinds."""
    return make([("num", ("sg", "pl"))], [("s", ()), ("t", ()), ("n", ("num",))],
                [rule(S, n("?x"), n("?x")), rule(S, S, n("*")), rule(n("pl"), S, S), rule(T, S), rule(S, n("sg"), T)],
                [morph("a"), morph("b", "k", ("num", "pl")), morph("ab", "m"), morph("a", "h"), morph("b", "h")],
                [("q", "k", "r"), ("r", "k", "r"), ("q", "m", "p"), ("q", "h", "r"), ("r", "h", "r")],
                [("r", "n"), ("p", "n"), ("r", "s")], [("b", "b", "bc")], "s", "q")


WORDS = ["ab", "a", "ab"]
PAIR = WORDS[:2]


def plain():
    """Only made-up cells and stages that need one another can be added to its table."""
    return make([], [("s", ()), ("t", ()), ("u", ())], [rule(S, T), rule(T, U), rule(T, T, T)],
                [morph("a"), morph("b", "m")], [("q", "k", "r"), ("r", "k", "r"), ("p", "k", "p"), ("p", "m", "r")],
                [("r", "u")], [], "s", "q")


def places(thing, at=()):
    """Each place in nested tuples and lists, as the tuple of the indexes that lead to it."""
    yield at
    if isinstance(thing, (tuple, list)):
        for k, item in enumerate(thing):
            yield from places(item, (*at, k))


def item_at(thing, place):
    for k in place:
        thing = thing[k]
    return thing


def changed(thing, place, change):
    """A copy in which the item at the place is what the change makes of it."""
    if not place:
        return change(thing)
    items = [copy.deepcopy(item) for item in thing]
    items[place[0]] = changed(thing[place[0]], place[1:], change)
    return type(thing)(items)


class AcceptsTest(unittest.TestCase):
    def check(self, given, words, pair, wanted):
        with self.subTest(words=words, pair=pair):
            kept = (content(given), list(words), copy.deepcopy(pair))
            self.assertIs(accepts(given, words, pair), wanted)
            self.assertEqual((content(given), words, pair), kept)


class TheTable(AcceptsTest):
    def test_the_table_of_the_words(self):
        given = ordinary()
        for words in ([], ["a"], ["b"], ["c"], WORDS, ["a", "a", "b", "a"], ["bcb", "ab", "x"]):
            self.check(given, words, table(given, words), True)
            self.check(given, words, plain_table(given, words), True)

    def test_no_words(self):
        for given in (ordinary(), Grammar()):
            self.check(given, [], ([], []), True)
            self.check(given, [], ([[]], []), False)
            self.check(given, [], ([], [(0, 1, S, [("word", ("r", "a", ("",)))])]), False)
            self.check(given, [], ([], [(0, 0, S, [])]), False)

    def test_empty_lists(self):
        given = ordinary()
        self.check(given, ["a"], ([], []), False)
        self.check(given, ["a"], ([[]], []), False)
        self.check(given, ["c"], ([], []), False)
        self.check(given, ["c"], ([[]], []), False)
        self.check(given, ["c"], ([[(("q", "", ("",)), [])]], []), True)

    def test_grammars_that_lack_something(self):
        parts = {"attributes": [], "categories": [("s", ()), ("t", ())], "rules": [rule(S, T)], "morphs": [morph("a")],
                 "arcs": [("q", "k", "r")], "ends": [("r", "t")], "start": "s", "first": "q"}
        begin, end = ("q", "", ()), ("r", "a", ())
        stage_lists, cells = [[(begin, []), (end, [(begin, 0)])]], [(0, 1, T, [("word", end)])]
        whole = cells[:]
        whole.insert(0, (0, 1, S, [("rule", 0, (), (T,))]))
        self.check(make(**parts), ["a"], (stage_lists, whole), True)
        tables = [(stage_lists, whole), (stage_lists, cells), (stage_lists, []), ([[(begin, [])]], []), ([[]], [])]
        for left_out, right in (("start", 0), ("rules", 1), ("ends", 2), ("arcs", 3), ("morphs", 3), ("first", 4)):
            given = make(**{name: parts[name] for name in parts if name != left_out})
            for k, pair in enumerate(tables):
                self.check(given, ["a"], pair, k == right)

    def test_the_table_of_other_words(self):
        given = ordinary()
        every = [[], ["a"], ["b"], ["a", "a"], ["a", "b"], ["b", "a"], WORDS, WORDS[::-1], WORDS[:2], WORDS + ["a"]]
        for words in every:
            for other in every:
                self.check(given, words, table(given, other), words == other)

    def test_the_table_of_another_grammar(self):
        one, other, words = ordinary(), ordinary(), ["ab", "a", "abc"]
        self.check(other, words, table(one, words), True)
        other.add_morph("zz", "k")
        self.check(other, words, table(one, words), True)
        for change in (lambda one: one.add_rule(T, (n("?x"), S)), lambda one: one.add_arc("p", "h", "r"),
                       lambda one: one.add_end("p", "t"), lambda one: one.add_morph("a", "k"),
                       lambda one: one.add_seam("a", "b", "xx"), lambda one: one.set_first("r"),
                       lambda one: one.add_attribute("case", ["nom"])):
            other = ordinary()
            change(other)
            self.check(other, words, table(one, words), False)
            self.check(other, words, table(other, words), True)
            self.check(one, words, table(other, words), False)


class OtherPairs(AcceptsTest):
    def setUp(self):
        self.given = ordinary()
        self.pair = table(self.given, PAIR)
        self.check(self.given, PAIR, self.pair, True)

    def refuse(self, place, change):
        pair = changed(self.pair, place, change)
        if pair != self.pair:
            self.check(self.given, PAIR, pair, False)
            return 1
        return 0

    def lists(self):
        return [place for place in places(self.pair) if isinstance(item_at(self.pair, place), list)]

    def test_left_out(self):
        for place in self.lists():
            for k in range(len(item_at(self.pair, place))):
                self.assertTrue(self.refuse(place, lambda row: row[:k] + row[k + 1:]))
            self.refuse(place, lambda row: [])

    def test_put_in_twice(self):
        for place in self.lists():
            for k in range(len(item_at(self.pair, place))):
                self.assertTrue(self.refuse(place, lambda row: row[:k] + [row[k]] + row[k:]))
                self.assertTrue(self.refuse(place, lambda row: row + [row[k]]))

    def test_exchanged_with_the_neighbour(self):
        seen = 0
        for place in self.lists():
            for k in range(len(item_at(self.pair, place)) - 1):
                seen += self.refuse(place, lambda row: row[:k] + [row[k + 1], row[k]] + row[k + 2:])
            seen += self.refuse(place, lambda row: row[::-1])
        self.assertGreater(seen, 30)

    def test_put_in(self):
        """What stands in one list of its kind stands in none of the others."""
        by_depth = {}
        for place in self.lists():
            by_depth.setdefault((len(place), place[0]), []).append(place)
        for alike in by_depth.values():
            items = [item for place in alike for item in item_at(self.pair, place)]
            for place in alike:
                for item in items[::3]:
                    for k in (0, 1, len(item_at(self.pair, place))):
                        self.assertTrue(self.refuse(place, lambda row: row[:k] + [item] + row[k:]))

    def test_another_number(self):
        seen = 0
        for place in places(self.pair):
            if isinstance(item_at(self.pair, place), int):
                for number in NUMBERS:
                    seen += self.refuse(place, lambda old: number)
        self.assertGreater(seen, 400)

    def test_another_string(self):
        seen = 0
        for place in places(self.pair):
            old = item_at(self.pair, place)
            if isinstance(old, str) and old not in ("word", "rule"):
                for text in ("", "a", "ab", "q", "r", "p", "s", "t", "n", "sg", "pl", "zz", "A b", old + "x", "?x", "*"):
                    seen += self.refuse(place, lambda old: text)
        self.assertGreater(seen, 500)

    def test_longer_and_shorter_marks_cuts_and_labels(self):
        for place in places(self.pair):
            old = item_at(self.pair, place)
            if len(place) > 2 and isinstance(old, tuple) and all(isinstance(item, (str, int)) for item in old):
                for new in (old + old, old + ("sg",), old + (1,), old[:-1], old[1:], ()):
                    if len(new) > 2 or new == () or isinstance(new[0], type(old[0] if old else 0)):
                        self.refuse(place, lambda old: new)

    def test_more_and_fewer_stage_lists(self):
        for k in range(len(PAIR) + 1):
            for more in ([], self.pair[0][0], self.pair[0][1], [(("q", "", ("",)), [])]):
                self.assertTrue(self.refuse((0,), lambda rows: rows[:k] + [more] + rows[k:]))
        self.assertTrue(self.refuse((0,), lambda rows: rows[:-1]))
        self.assertTrue(self.refuse((0,), lambda rows: rows + rows))

    def test_by_chance(self):
        chance = random.Random(41)
        for _ in range(100):
            given = some_language(chance)
            words = some_words(chance, given, 3)
            pair = table(given, words)
            single = [place for place in places(pair) if isinstance(item_at(pair, place), (int, str))
                      and item_at(pair, place) not in ("word", "rule")]
            for place in chance.sample(single, min(len(single), 6)):
                alike = [item_at(pair, other) for other in single]
                new = chance.choice([item for item in alike if type(item) is type(item_at(pair, place))])
                now = changed(pair, place, lambda old: new)
                self.check(given, words, now, now == plain_table(given, words))


class MadeUp(AcceptsTest):
    """What is added holds as far as it goes, but nothing leads to it."""

    def setUp(self):
        self.given = plain()
        self.begin, self.end = ("q", "", ()), ("r", "a", ())
        self.stages = [(self.begin, []), (self.end, [(self.begin, 0)])]
        self.leaf = (0, 1, U, [("word", self.end)])
        self.cells = [(0, 1, S, [("rule", 0, (), (T,))]), (0, 1, T, [("rule", 1, (), (U,))]), self.leaf]
        self.check(self.given, ["a"], ([self.stages], self.cells), True)

    def test_a_cell_that_has_no_ways(self):
        for k in range(3):
            cells = list(self.cells)
            cells[k] = (*cells[k][:3], [])
            self.check(self.given, ["a"], ([self.stages], cells), False)
        for cell in ((0, 1, ("v", ()), []), (0, 2, S, []), (1, 2, S, []), (0, 0, S, []), (1, 0, S, []), (-1, 0, S, []),
                     (-1, 1, S, []), (0, 10 ** 30, S, [])):
            self.check(self.given, ["a"], ([self.stages], sorted(self.cells + [cell])), False)

    def test_cells_that_need_one_another_or_themselves(self):
        begin = [(self.begin, [])]
        self.check(self.given, ["b"], ([begin], []), True)
        for cells in ([(0, 1, S, [("rule", 0, (), (T,))]), (0, 1, T, [("rule", 1, (), (U,))]),
                       (0, 1, U, [("rule", 2, (), (S,))])],
                      [(0, 1, S, [("rule", 0, (), (S,))])], [(0, 1, T, [("rule", 2, (0,), (T, T))])],
                      [(0, 1, T, [("rule", 2, (1,), (T, T))]), (1, 1, T, [("rule", 2, (1,), (T, T))])],
                      [(0, 1, S, [("rule", 0, (), (T,))]), (0, 1, T, [("rule", 1, (), (U,))])],
                      [(0, 1, S, [("rule", 0, (), (T,))]), (0, 1, T, [("rule", 2, (), (T,))])]):
            self.check(self.given, ["b"], ([begin], cells), False)

    def test_ways_over_cells_that_are_not_there(self):
        for way in (("rule", 0, (), (U,)), ("rule", 2, (1,), (T, T)), ("rule", 2, (0,), (T, T)), ("rule", 1, (), (S,)),
                    ("rule", 0, (), ()), ("rule", 0, (), (T, T)), ("rule", 0, (1,), (T,)), ("rule", -1, (), (T,)),
                    ("rule", 3, (), (T,)), ("rule", -3, (), (T,)), ("rule", 10 ** 30, (), (T,)),
                    ("word", self.end), ("word", self.begin), ("word", ("p", "a", ())), ("word", ("", "", ("", "")))):
            for k in range(3):
                cells = list(self.cells)
                cells[k] = (*cells[k][:3], cells[k][3] + [way])
                self.check(self.given, ["a"], ([self.stages], cells), False)
                cells[k] = (*cells[k][:3], [way] + self.cells[k][3])
                self.check(self.given, ["a"], ([self.stages], cells), False)

    def test_a_stage_that_no_morph_leads_to(self):
        for stage in (("p", "a", ()), ("p", "", ()), ("r", "", ()), ("zz", "a", ()), ("r", "aa", ()), ("", "", ())):
            stages = sorted([(stage, []), *self.stages])
            self.check(self.given, ["a"], ([stages], self.cells), False)

    def test_stages_that_lead_on_from_a_stage_that_is_none(self):
        # From p, an arc by the kind of the first morph leads to p, but nothing leads to p at first.
        one, two = ("p", "", ()), ("p", "a", ())
        stages = sorted([(one, []), (two, [(one, 0)]), *self.stages])
        self.check(self.given, ["a"], ([stages], self.cells), False)

    def test_stages_that_are_each_others_ways(self):
        one, two = ("p", "a", ()), ("p", "aa", ())
        for more in ([(one, [(one, 0)])], [(one, [(two, 0)]), (two, [(one, 0)])], [(two, [(two, 0)])]):
            self.check(self.given, ["a"], ([sorted([*more, *self.stages])], self.cells), False)
        for way in ((self.end, 0), (self.end, 1), (self.begin, 1), (self.begin, -2), (self.begin, 0)):
            stages = [(self.begin, []), (self.end, [(self.begin, 0), way])]
            self.check(self.given, ["a"], ([stages], self.cells), False)
        stages = [(self.begin, [(self.end, 0)]), (self.end, [(self.begin, 0)])]
        self.check(self.given, ["a"], ([stages], self.cells), False)


if __name__ == "__main__":
    unittest.main()
