"""Tests of readingsall.forest (points 2, 24 and 25)."""

import copy
import random
import unittest
from functools import cmp_to_key
from itertools import islice, product
from math import comb

from readingsall.errors import BadForest, NoReading
from readingsall.forest import Forest

GREAT = 10 ** 30


def plain_trees(entries, entry):
    """All trees of the entry in no order, as nested tuples (entry, way, trees of the children)."""
    return [(entry, way, below) for way, (_, children) in enumerate(entries[entry])
            for below in product(*[plain_trees(entries, child) for child in children])]


def plain_cost(entries, tree):
    entry, way, below = tree
    return entries[entry][way][0] + sum(plain_cost(entries, child) for child in below)


def plain_compare(entries, one, other):
    """Point 25: below 0, 0 or above 0, as the first tree comes first, they are the same, or it comes last."""
    if one == other:
        return 0
    costs = plain_cost(entries, one) - plain_cost(entries, other)
    if costs or one[1] != other[1]:
        return costs or one[1] - other[1]
    return next(plain_compare(entries, left, right) for left, right in zip(one[2], other[2]) if left != right)


def pairs(tree):
    entry, way, below = tree
    return [(entry, way), *[pair for child in below for pair in pairs(child)]]


def plain_order(entries, entry):
    """The trees of the entry in order, as lists of pairs."""
    found = sorted(plain_trees(entries, entry), key=cmp_to_key(lambda one, other: plain_compare(entries, one, other)))
    return [pairs(tree) for tree in found]


def some_entries(chance, costs=(0, 0, 1, 2, 5)):
    entries = []
    for index in range(chance.randrange(1, 6)):
        ways = []
        for _ in range(chance.choice([0, 1, 1, 2, 2, 3])):
            many = 0 if index == 0 else chance.choice([0, 0, 1, 1, 2, 2, 3])
            ways.append((chance.choice(costs), tuple(chance.randrange(index) for _ in range(many))))
        entries.append(ways)
    return entries


class ForestTest(unittest.TestCase):
    def check(self, entries, entry, trees):
        """Check all that the forest tells of the entry; the trees are all of them in order."""
        with self.subTest(entries=entries, entry=entry):
            kept = copy.deepcopy(entries)
            forest = Forest(entries)
            self.assertEqual(plain_order(entries, entry), trees)
            self.assertEqual(forest.total(entry), len(trees))
            costs = [sum(entries[one][way][0] for one, way in tree) for tree in trees]
            self.assertEqual(forest.counts(entry), [(cost, costs.count(cost)) for cost in sorted(set(costs))])
            self.assertEqual([forest.cost(tree) for tree in trees], costs)
            self.assertEqual([forest.tree(entry, number) for number in range(len(trees))], trees)
            self.assertEqual([forest.number(tree) for tree in trees], list(range(len(trees))))
            for start in {0, 1, len(trees) // 2, len(trees) - 1, len(trees), len(trees) + 1, GREAT} - {-1}:
                self.assertEqual(list(forest.trees(entry, start)), trees[start:])
            for number in (-1, -2, -len(trees), -len(trees) - 1, len(trees), len(trees) + 1, GREAT, -GREAT):
                if not 0 <= number < len(trees):
                    with self.assertRaises(NoReading):
                        forest.tree(entry, number)
            self.assertEqual(entries, kept)


class Entries(ForestTest):
    def test_no_entries(self):
        forest = Forest([])
        for tree in ([], [(0, 0)], [(-1, 0)], [(0, -1)]):
            with self.assertRaises(NoReading):
                forest.number(tree)

    def test_an_entry_without_ways(self):
        self.check([[]], 0, [])
        self.check([[], [(0, (0,))]], 1, [])
        self.check([[], [(0, (0,)), (3, ())]], 1, [[(1, 1)]])
        self.check([[], [(1, ())], [(0, (1, 0)), (0, (0, 1)), (2, (1, 1))]], 2, [[(2, 2), (1, 0), (1, 0)]])

    def test_ways_without_children(self):
        self.check([[(0, ())]], 0, [[(0, 0)]])
        self.check([[(GREAT, ())]], 0, [[(0, 0)]])
        self.check([[(2, ()), (0, ()), (1, ()), (0, ())]], 0, [[(0, 1)], [(0, 3)], [(0, 2)], [(0, 0)]])

    def test_one_way_after_another(self):
        entries = [[(5, ()), (3, ())], [(1, (0,))], [(0, (1,)), (2, ())]]
        self.check(entries, 1, [[(1, 0), (0, 1)], [(1, 0), (0, 0)]])
        self.check(entries, 2, [[(2, 1)], [(2, 0), (1, 0), (0, 1)], [(2, 0), (1, 0), (0, 0)]])

    def test_the_same_child_several_times(self):
        entries = [[(0, ()), (1, ())], [(0, (0, 0, 0))]]
        wanted = [[(1, 0), (0, a), (0, b), (0, c)] for a, b, c in (
            (0, 0, 0), (0, 0, 1), (0, 1, 0), (1, 0, 0), (0, 1, 1), (1, 0, 1), (1, 1, 0), (1, 1, 1))]
        self.check(entries, 1, wanted)
        forest = Forest(entries)
        self.assertEqual(forest.counts(1), [(0, 1), (1, 3), (2, 3), (3, 1)])

    def test_the_same_way_twice(self):
        self.check([[(1, ())], [(1, (0,)), (1, (0,)), (0, (0,))]], 1, [[(1, 2), (0, 0)], [(1, 0), (0, 0)], [(1, 1), (0, 0)]])

    def test_costs(self):
        self.check([[(0, ()), (0, ())], [(0, (0, 0))]], 1,
                   [[(1, 0), (0, a), (0, b)] for a, b in ((0, 0), (0, 1), (1, 0), (1, 1))])
        entries = [[(GREAT, ()), (0, ()), (GREAT - 1, ())], [(GREAT, (0,)), (1, (0, 0))]]
        self.check(entries, 1, plain_order(entries, 1))
        self.assertEqual(Forest(entries).counts(1)[0], (1, 1))
        self.assertEqual(Forest(entries).counts(1)[-1], (2 * GREAT + 1, 1))

    def test_the_other_entries_do_not_matter(self):
        entries = [[(0, ())], [(1, ()), (2, (0,))], [(0, (1, 1)), (1, (0,))], [(0, (0,))]]
        for entry in range(4):
            self.check(entries, entry, plain_order(entries, entry))

    def test_a_list_that_is_no_forest(self):
        good = [[(0, ())], [(1, (0,))], [(0, (1, 0)), (2, (0,))]]
        Forest(good)
        for entry, ways in enumerate(good):
            for way, (cost, children) in enumerate(ways):
                for bad in (-1, -2, -GREAT):
                    self.refuse(good, entry, way, (bad, children))
                for child in (entry, entry + 1, -1, -2, -3, 3, 99, GREAT, -GREAT):
                    for place in range(len(children) + 1):
                        self.refuse(good, entry, way, (cost, (*children[:place], child, *children[place:])))
        for entries in ([[(0, (0,))]], [[(0, (1,))], []], [[(0, (1,))], [(0, ())]], [[], [(0, (0, 0, 1))]], [[(-1, ())]]):
            with self.assertRaises(BadForest):
                Forest(entries)

    def refuse(self, good, entry, way, wrong):
        entries = copy.deepcopy(good)
        entries[entry][way] = wrong
        kept = copy.deepcopy(entries)
        with self.subTest(entries=entries):
            with self.assertRaises(BadForest):
                Forest(entries)
            self.assertEqual(entries, kept)


class Order(ForestTest):
    def test_costs_then_ways_then_the_first_child_that_differs(self):
        # The lesser cost comes first, though its way stands last.
        self.check([[(2, ()), (1, ())]], 0, [[(0, 1)], [(0, 0)]])
        # Of one cost: the first way, whatever the children are.
        entries = [[(0, ()), (1, ())], [(1, (0,)), (0, (0,))]]
        self.check(entries, 1, [[(1, 1), (0, 0)], [(1, 0), (0, 0)], [(1, 1), (0, 1)], [(1, 0), (0, 1)]])
        # Of one cost and way: the first child in which they differ, by the order of its entry.
        entries = [[(1, ()), (0, ()), (1, ())], [(0, (0, 0))]]
        self.check(entries, 1, [[(1, 0), (0, a), (0, b)] for a, b in (
            (1, 1), (1, 0), (1, 2), (0, 1), (2, 1), (0, 0), (0, 2), (2, 0), (2, 2))])

    def test_the_cost_of_the_child_before_its_way(self):
        # The trees of the child 1 by cost: way 1, then way 0; together they cost the same.
        entries = [[(0, ()), (3, ())], [(3, ()), (0, ())], [(0, (1, 0))]]
        self.check(entries, 2, [[(2, 0), (1, 1), (0, 0)], [(2, 0), (1, 1), (0, 1)], [(2, 0), (1, 0), (0, 0)],
                                [(2, 0), (1, 0), (0, 1)]])

    def test_a_difference_deep_within_the_children(self):
        entries = [[(0, ()), (0, ())], [(0, (0, 0)), (0, ())], [(0, (1, 0, 1))]]
        self.check(entries, 2, plain_order(entries, 2))
        self.assertEqual(Forest(entries).tree(2, 49), [(2, 0), (1, 1), (0, 1), (1, 1)])

    def test_against_the_document(self):
        chance = random.Random(51)
        seen = several = 0
        while seen < 250:
            entries = some_entries(chance)
            entry = len(entries) - 1
            if Forest(entries).total(entry) <= 150:
                seen += 1
                trees = plain_order(entries, entry)
                several += len(trees) > 10
                self.check(entries, entry, trees)
        self.assertGreater(several, 30)

    def test_counts_against_all_trees_listed(self):
        chance = random.Random(53)
        for _ in range(60):
            entries = some_entries(chance, (0, 7, 7, GREAT, 1000))
            forest = Forest(entries)
            for entry in range(len(entries)):
                if forest.total(entry) < 3000:
                    costs = [plain_cost(entries, tree) for tree in plain_trees(entries, entry)]
                    self.assertEqual(forest.total(entry), len(costs))
                    self.assertEqual(forest.counts(entry), [(cost, costs.count(cost)) for cost in sorted(set(costs))])


class NoTree(unittest.TestCase):
    ENTRIES = [[(0, ()), (1, ())], [], [(0, (0, 0)), (2, (0,)), (1, ()), (0, (0, 1))], [(0, (2, 0, 2))]]

    def refuse(self, tree, entries=None):
        with self.subTest(tree=tree):
            kept = copy.deepcopy(tree)
            with self.assertRaises(NoReading):
                Forest(entries or self.ENTRIES).number(tree)
            self.assertEqual(tree, kept)

    def good(self):
        trees = plain_order(self.ENTRIES, 3)
        return trees[::7]

    def test_the_empty_list(self):
        self.refuse([])

    def test_a_pair_left_out_or_twice(self):
        for tree in self.good():
            for k in range(len(tree)):
                self.refuse(tree[:k] + tree[k + 1:])
                self.refuse(tree[:k])
                self.refuse(tree[:k] + [tree[k]] + tree[k:])

    def test_pairs_exchanged(self):
        for tree in self.good():
            for k in range(len(tree) - 1):
                other = tree[:k] + [tree[k + 1], tree[k]] + tree[k + 2:]
                if other not in plain_order(self.ENTRIES, 3):
                    self.refuse(other)
            self.refuse(tree[::-1])

    def test_unknown_entries_and_ways(self):
        for tree in self.good()[:3]:
            for k, (entry, way) in enumerate(tree):
                for wrong in (-1, -2, -3, -4, -5, 4, 5, 99, GREAT, -GREAT, 1):
                    self.refuse(tree[:k] + [(wrong, way)] + tree[k + 1:])
                    self.refuse(tree[:k] + [(wrong, 0)] + tree[k + 1:])
                    if wrong != 1:
                        self.refuse(tree[:k] + [(entry, wrong)] + tree[k + 1:])
        self.refuse([(0, 2)])
        self.refuse([(0, -1)])
        self.refuse([(0, -2)])
        self.refuse([(-4, 0)])
        self.refuse([(1, 0)])

    def test_another_tree_behind_it(self):
        for tree in self.good():
            for more in ([(0, 0)], [(2, 2)], tree, plain_order(self.ENTRIES, 2)[0]):
                self.refuse(tree + more)
                self.refuse(more + tree)

    def test_a_child_of_another_entry(self):
        self.refuse([(2, 0), (0, 0), (2, 2)])
        self.refuse([(2, 0), (2, 2), (0, 0)])
        self.refuse([(2, 1), (2, 2)])
        self.refuse([(3, 0), (2, 2), (2, 2), (2, 2)])
        self.refuse([(3, 0), (0, 0), (0, 0), (2, 2)])
        self.refuse([(2, 2), (0, 0)])
        self.refuse([(2, 3), (0, 0), (1, 0)])
        self.refuse([(2, 3), (0, 0)])

    def test_all_lists_of_few_pairs(self):
        """Of all lists of pairs, exactly the trees have a number."""
        entries = [[(0, ()), (1, ())], [(0, (0, 0)), (0, (0,))]]
        forest = Forest(entries)
        trees = {tuple(tree): number for entry in range(2) for number, tree in enumerate(plain_order(entries, entry))}
        found = 0
        for many in range(4):
            for tree in product([(entry, way) for entry in range(3) for way in range(3)], repeat=many):
                if tree in trees:
                    found += 1
                    self.assertEqual(forest.number(list(tree)), trees[tree])
                else:
                    with self.assertRaises(NoReading):
                        forest.number(list(tree))
        self.assertEqual(found, len(trees))

    def test_the_forest_stays_as_it_is(self):
        forest = Forest(self.ENTRIES)
        for tree in ([], [(3, 0)], [(9, 9)]):
            with self.assertRaises(NoReading):
                forest.number(tree)
        with self.assertRaises(NoReading):
            forest.tree(3, GREAT)
        self.assertEqual(list(forest.trees(3, 0)), plain_order(self.ENTRIES, 3))


class Copies(unittest.TestCase):
    def test_later_changes_of_what_was_passed(self):
        given = [[(0, ()), (1, ())], [(0, (0, 0))]]
        wanted = plain_order(given, 1)
        forest = Forest(given)
        given[0].clear()
        given[1].append((0, ()))
        given.append([])
        self.assertEqual(list(forest.trees(1, 0)), wanted)
        self.assertEqual(forest.total(1), 4)
        self.assertEqual(forest.counts(1), [(0, 1), (1, 2), (2, 1)])
        given.clear()
        self.assertEqual([forest.number(tree) for tree in wanted], [0, 1, 2, 3])

    def test_later_changes_of_what_was_returned(self):
        given = [[(0, ()), (1, ())], [(0, (0, 0))]]
        wanted, forest = plain_order(given, 1), Forest(given)
        for _ in range(2):
            forest.counts(1).clear()
            forest.counts(0).append((9, 9))
            forest.tree(1, 0).clear()
            forest.tree(1, 3).append((9, 9))
            self.assertEqual(forest.counts(1), [(0, 1), (1, 2), (2, 1)])
            self.assertEqual(forest.counts(0), [(0, 1), (1, 1)])
            self.assertEqual([forest.tree(1, number) for number in range(4)], wanted)

    def test_each_list_that_is_yielded_is_a_new_one(self):
        given = [[(0, ()), (1, ())], [(0, (0, 0))]]
        wanted, forest, found = plain_order(given, 1), Forest(given), []
        for tree in forest.trees(1, 0):
            found.append(list(tree))
            tree.clear()
            given.append([])
        self.assertEqual(found, wanted)
        self.assertEqual(len({id(tree) for tree in list(forest.trees(1, 0))}), 4)

    def test_trees_is_a_generator(self):
        forest = Forest([[(0, ()), (1, ())], [(0, (0, 0))]])
        one, other = forest.trees(1, 1), forest.trees(1, 0)
        self.assertEqual(next(one), [(1, 0), (0, 0), (0, 1)])
        self.assertEqual(next(other), [(1, 0), (0, 0), (0, 0)])
        self.assertEqual(next(one), [(1, 0), (0, 1), (0, 0)])
        self.assertIs(iter(one), one)
        self.assertEqual(list(one), [[(1, 0), (0, 1), (0, 1)]])

    def test_kinds(self):
        forest = Forest([[(0, ()), (1, ())], [(0, (0, 0))]])
        self.assertIs(type(forest.counts(1)), list)
        self.assertEqual({type(pair) for pair in forest.counts(1)}, {tuple})
        self.assertIs(type(forest.tree(1, 0)), list)
        self.assertEqual({type(pair) for pair in forest.tree(1, 0)}, {tuple})


class Large(unittest.TestCase):
    def test_a_chain(self):
        many = 2000
        entries = [[(1, ()), (0, ())]] + [[(2, (k,))] for k in range(many)]
        forest = Forest(entries)
        tree = [(k, 0) for k in range(many, 0, -1)]
        self.assertEqual(forest.total(many), 2)
        self.assertEqual(forest.counts(many), [(2 * many, 1), (2 * many + 1, 1)])
        self.assertEqual(list(forest.trees(many, 0)), [tree + [(0, 1)], tree + [(0, 0)]])
        self.assertEqual(forest.number(tree + [(0, 0)]), 1)
        self.assertEqual(forest.cost(tree + [(0, 0)]), 2 * many + 1)
        for wrong in (tree, tree + [(0, 2)], tree + [(0, 0)] * 2, tree[1:], tree[:5] + tree[6:] + [(0, 0)]):
            with self.assertRaises(NoReading):
                forest.number(wrong)

    def test_more_trees_than_could_be_listed(self):
        many = 300
        entries = [[(0, ())]] + [[(0, (k,)), (1, (k,))] for k in range(many)]
        forest = Forest(entries)
        self.assertEqual(forest.total(many), 2 ** many)
        self.assertEqual(forest.counts(many), [(cost, comb(many, cost)) for cost in range(many + 1)])
        first = [(k, 0) for k in range(many, -1, -1)]
        self.assertEqual(forest.tree(many, 0), first)
        self.assertEqual(forest.tree(many, 2 ** many - 1), [(k, 1) for k in range(many, 0, -1)] + [(0, 0)])
        # Of the trees with the cost 1, the one with the way 1 deepest down comes first.
        self.assertEqual(forest.tree(many, 1), first[:-2] + [(1, 1), (0, 0)])
        self.assertEqual(forest.tree(many, many), [(many, 1)] + first[1:])
        for number in (0, 1, many, 2 ** 64, 2 ** many // 3, 2 ** many - 2):
            tree = forest.tree(many, number)
            self.assertEqual(forest.number(tree), number)
            self.assertEqual(next(forest.trees(many, number)), tree)
        for number in (2 ** many, 2 ** many + 1, -1):
            with self.assertRaises(NoReading):
                forest.tree(many, number)
        self.assertEqual(list(forest.trees(many, 2 ** many - 3)),
                         [forest.tree(many, 2 ** many - k) for k in (3, 2, 1)])
        self.assertEqual(len(list(islice(forest.trees(many, 2 ** 100), 5))), 5)

    def test_each_tree_has_its_place_among_its_neighbours(self):
        """Where all trees cannot be listed: a tree and the next one stand in order."""
        chance, many = random.Random(57), 12
        entries = [[(0, ()), (2, ()), (1, ())]]
        for k in range(many):
            entries.append([(chance.randrange(4), tuple(chance.randrange(k + 1) for _ in range(chance.randrange(1, 3))))
                            for _ in range(3)])
        forest = Forest(entries)
        self.assertGreater(forest.total(many), 10 ** 8)
        for _ in range(60):
            number = chance.randrange(forest.total(many) - 1)
            one, other = forest.tree(many, number), forest.tree(many, number + 1)
            nested = [self.nested(entries, tree) for tree in (one, other)]
            self.assertLess(plain_compare(entries, *nested), 0)
            self.assertEqual([forest.number(one), forest.number(other)], [number, number + 1])

    def nested(self, entries, tree):
        rest = list(tree)

        def take():
            entry, way = rest.pop(0)
            return (entry, way, tuple(take() for _ in entries[entry][way][1]))
        found = take()
        self.assertEqual(rest, [])
        return found

    def test_very_many_costs_and_trees_do_not_matter_for_others(self):
        # Of the last entries, the costs or the trees could not even be told.
        entries = [[(0, ()), (1, ())]]
        for k in range(200):
            entries.append([(2 ** k, (k,)), (0, (k,)), (3, (k, k))])
        forest = Forest(entries)
        self.assertEqual(forest.total(0), 2)
        self.assertEqual(forest.total(2), 2 * 8 + 64)
        self.assertEqual(len(list(forest.trees(2, 0))), 80)
        entries = [[(0, ())]] + [[(0, (k,)), (2 ** k, (k,))] for k in range(200)]
        forest = Forest(entries)
        self.assertEqual(forest.total(200), 2 ** 200)
        self.assertEqual(forest.cost([(k, 1) for k in range(200, 0, -1)] + [(0, 0)]), 2 ** 200 - 1)

    def test_a_way_with_many_children(self):
        entries = [[(0, ()), (1, ())], [(0, (0,) * 400)]]
        forest = Forest(entries)
        self.assertEqual(forest.total(1), 2 ** 400)
        self.assertEqual(forest.counts(1), [(cost, comb(400, cost)) for cost in range(401)])
        self.assertEqual(forest.tree(1, 1), [(1, 0)] + [(0, 0)] * 399 + [(0, 1)])
        self.assertEqual(forest.number([(1, 0)] + [(0, 1)] + [(0, 0)] * 399), 400)


if __name__ == "__main__":
    unittest.main()
