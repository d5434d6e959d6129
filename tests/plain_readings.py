"""Tables, derivations and their order word by word as the document defines them, slowly."""

from functools import cmp_to_key
from itertools import combinations, product

from helpers import make
from plain import every_label, plain_labels, plain_rows, plain_stages, plain_agrees, plain_text, plainly_fits
from readingsall.errors import Ring


def borders(first, last, many):
    """All ascending lists of indexes from first to last, with as many gaps as asked for."""
    return [(first, *cuts, last) for cuts in combinations(range(first + 1, last), many - 1)]


def plain_table(grammar, words):
    """Point 19: look for ways of cells again and again until no new cell is found."""
    stage_lists = [plain_stages(grammar, word) for word in words]
    spans = [(first, last) for last in range(len(words) + 1) for first in range(last)]
    there = set()
    while True:
        new = [(*span, label) for span in spans for label in every_label(grammar) if (*span, label) not in there
               and plain_ways(grammar, words, stage_lists, there, *span, label)]
        if not new:
            break
        there.update(new)
    return stage_lists, [(*cell, plain_ways(grammar, words, stage_lists, there, *cell)) for cell in sorted(there)]


def plain_ways(grammar, words, stage_lists, there, first, last, label):
    by_word = []
    if last == first + 1:
        by_word = [("word", stage) for stage, _ in stage_lists[first] if stage[1] == words[first]
                   and (stage[0], label[0]) in grammar.ends() and plain_agrees(grammar, label, stage[2])]
    by_rule = []
    for number, rule in enumerate(grammar.rules()):
        if rule[0][0] == label[0]:
            for ends in borders(first, last, len(rule[1])):
                gaps = list(zip(ends, ends[1:]))
                rows = [[one for one in grammar.labels(part[0]) if (*gap, one) in there]
                        for part, gap in zip(rule[1], gaps)]
                by_rule += [("rule", number, ends[1:-1], labels) for labels in product(*rows)
                            if plainly_fits(rule, label, labels)]
    return sorted(by_word) + sorted(by_rule)


class PlainReadings:
    """All derivations of words by a grammar (points 14 and 15), in no order."""

    def __init__(self, grammar):
        self.grammar = grammar
        self.known = {}

    def rows(self, word, label):
        # Each morph has at least one letter more than what it takes away.
        return [row for row in plain_rows(self.grammar, len(word))
                if plain_text(self.grammar, row) == word and label in plain_labels(self.grammar, row)]

    def derivations(self, words, label):
        key = (tuple(words), label)
        if key not in self.known:
            found = []
            if len(words) == 1:
                found = [[("word", label, row)] for row in self.rows(words[0], label)]
            for number, rule in enumerate(self.grammar.rules()):
                if rule[0][0] == label[0]:
                    for ends in borders(0, len(words), len(rule[1])):
                        found += self.by_rule(words, label, number, rule, ends)
            self.known[key] = found
        return self.known[key]

    def by_rule(self, words, label, number, rule, ends):
        parts = [words[low:high] for low, high in zip(ends, ends[1:])]
        for labels in product(*[self.grammar.labels(category) for category, _ in rule[1]]):
            if plainly_fits(rule, label, labels):
                rows = [self.derivations(part, one) for part, one in zip(parts, labels)]
                for children in product(*rows):
                    yield [("rule", number, label), *[node for child in children for node in child]]

    def readings(self, words):
        labels = [] if self.grammar.start is None else self.grammar.labels(self.grammar.start)
        return [one for label in labels for one in self.derivations(words, label)]


def label_of(derivation):
    return derivation[0][-1] if derivation[0][0] == "rule" else derivation[0][1]


def plain_cost(grammar, derivation):
    total = 0
    for node in derivation:
        if node[0] == "rule":
            total += grammar.rules()[node[1]][2]
        else:
            total += row_cost(grammar, node[2])
    return total


def row_cost(grammar, row):
    return sum(grammar.morphs()[number][3] for number in row)


def children_of(grammar, derivation):
    """The derivations of the children of the first node."""
    found, at = [], 1
    while at < len(derivation):
        begin, open_ends = at, 1
        while open_ends:
            node = derivation[at]
            open_ends += len(grammar.rules()[node[1]][1]) - 1 if node[0] == "rule" else -1
            at += 1
        found.append(derivation[begin:at])
    return found


def plain_gloss(grammar, derivation):
    node = derivation[0]
    if node[0] == "word":
        return "+".join(grammar.morphs()[number][4] for number in node[2] if grammar.morphs()[number][4])
    children = [plain_gloss(grammar, child) for child in children_of(grammar, derivation)]
    items = [children[item - 1] if isinstance(item, int) else item for item in grammar.rules()[node[1]][3]]
    return " ".join(item for item in items if item)


def words_in(derivation):
    return len([node for node in derivation if node[0] == "word"])


class PlainOrder:
    """The order of rows, of derivations and of readings (points 21, 22 and 23)."""

    def __init__(self, grammar, words):
        self.grammar = grammar
        stage_lists, cells = plain_table(grammar, words)
        self.stage_lists = [dict(one) for one in stage_lists]
        self.cells = {cell[:3]: cell[3] for cell in cells}

    def stage(self, at, row):
        """The stage to which the row leads, by the ways of the stages."""
        stages = self.stage_lists[at]
        here = [stage for stage in stages if not stages[stage]][0]
        for number in row:
            here = [stage for stage in stages if (here, number) in stages[stage]][0]
        return here

    def rows(self, at, one, other):
        """Below 0, 0 or above 0, as the first row comes first, they are the same, or it comes last."""
        if one == other:
            return 0
        costs = row_cost(self.grammar, one) - row_cost(self.grammar, other)
        if costs:
            return costs
        ways = self.stage_lists[at][self.stage(at, one)]
        assert self.stage(at, one) == self.stage(at, other)
        places = [ways.index((self.stage(at, row[:-1]), row[-1])) for row in (one, other)]
        return places[0] - places[1] or self.rows(at, one[:-1], other[:-1])

    def way(self, first, derivation):
        node = derivation[0]
        if node[0] == "word":
            return ("word", self.stage(first, node[2]))
        children = children_of(self.grammar, derivation)
        lasts = [first + words_in(derivation[1:1 + sum(map(len, children[:many]))]) for many in range(len(children))]
        return ("rule", node[1], tuple(lasts[1:]), tuple(label_of(child) for child in children))

    def derivations(self, first, one, other):
        if one == other:
            return 0
        costs = plain_cost(self.grammar, one) - plain_cost(self.grammar, other)
        if costs:
            return costs
        ways = self.cells[(first, first + words_in(one), label_of(one))]
        places = [ways.index(self.way(first, each)) for each in (one, other)]
        if places[0] != places[1]:
            return places[0] - places[1]
        if one[0][0] == "word":
            return self.rows(first, one[0][2], other[0][2])
        for left, right in zip(children_of(self.grammar, one), children_of(self.grammar, other)):
            if left != right:
                return self.derivations(first, left, right)
            first += words_in(left)

    def readings(self, one, other):
        costs = plain_cost(self.grammar, one) - plain_cost(self.grammar, other)
        if costs:
            return costs
        if label_of(one) != label_of(other):
            return -1 if label_of(one) < label_of(other) else 1
        return self.derivations(0, one, other)

    def sorted(self, readings):
        return sorted(readings, key=cmp_to_key(self.readings))


def some_language(chance, costs=(0, 0, 1, 2), most_rules=8):
    """A grammar by chance with rules, in which short texts have few to many readings."""
    values = {"num": ("sg", "pl"), "case": ("nom", "acc")}
    names = chance.sample(sorted(values), chance.randrange(3))
    attributes = [(name, values[name]) for name in names]
    categories = [("s", chance.sample(names, chance.randrange(min(len(names), 1) + 1))), ("n", names[:1]), ("x", ())]
    states = ["q", "r"]
    arcs = [(state, kind, chance.choice(states)) for state in states for kind in ("k", "m") if chance.randrange(6)]
    ends = [(state, name) for state in states for name, _ in categories if chance.randrange(3)]
    morphs = []
    for _ in range(chance.randrange(2, 6)):
        text = chance.choice(["a", "a", "b", "ab", "ba", "aa"])
        marks = tuple((name, chance.choice(values[name])) for name in names if not chance.randrange(3))
        morphs.append((text, chance.choice("kkm"), marks, chance.choice(costs), chance.choice(["", "A", "b", "C-1"])))
    grammar = make(attributes, categories, [], morphs, arcs, ends, [], "s", "q")
    for seam in (("a", "b", "ab"), ("ab", "a", "ba"), ("b", "aa", "a")):
        if not chance.randrange(3):
            if all(len(text) + len(seam[2]) > len(seam[0]) + len(seam[1]) for text, _, _, _, _ in morphs
                   if text.startswith(seam[1])):
                grammar.add_seam(*seam)
    for _ in range(chance.randrange(1, most_rules + 1)):
        add_some_rule(grammar, chance, costs)
    return grammar


def add_some_rule(grammar, chance, costs):
    """Add a rule by chance, if it closes no ring."""
    values, categories = dict(grammar.attributes()), dict(grammar.categories())
    patterns = []
    for _ in range(1 + chance.choice([1, 1, 2, 2, 2, 2, 3, 3, 4])):
        name = chance.choice(sorted(categories))
        terms = [chance.choice(["*", "?" + attribute, "?" + attribute, "?" + attribute + "2", *values[attribute]])
                 for attribute in categories[name]]
        patterns.append((name, tuple(terms)))
    parts = tuple(patterns[1:])
    items = [chance.choice(["DO", ".", *range(1, len(parts) + 1)]) for _ in range(chance.randrange(4))]
    try:
        grammar.add_rule(patterns[0], parts, cost=chance.choice(costs), gloss_row=tuple(items))
    except Ring:
        pass


def some_words(chance, grammar, most=4):
    """Mostly words that have a label, and rarely others."""
    rows = [row for row in plain_rows(grammar, 2) if plain_labels(grammar, row)]
    texts = [text for text in [plain_text(grammar, row) for row in rows] if len(text) < 4]
    return [chance.choice(texts if texts and chance.randrange(8) else ["a", "b", "ab", "ba", "aa"])
            for _ in range(chance.randrange(1, most + 1))]
