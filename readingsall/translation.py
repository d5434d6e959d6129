"""Between the readings of words and the trees of a forest (points 21 to 25 of the document).

A key stands for an entry: the empty tuple for all readings, (first, last, label) for a cell, and (word, stage) for
a stage. A way of a key is a tuple of a cost, of the keys of its children and of a sign, which tells what it adds to
a derivation: a rule node, the label or a morph of a word node, or nothing.
"""

from readingsall.chart import table
from readingsall.errors import NoReading
from readingsall.marks import no_marks

WHOLE = ()
TOP = ("top",)
BEGIN = ("begin",)


def key_ways(grammar, words, pair):
    """Return a dict from keys to lists of their ways, in the order of the ways of the table."""
    morph_costs = [cost for _, _, _, cost, _ in grammar.morphs()]
    rule_costs = [cost for _, _, cost, _ in grammar.rules()]
    found = {}
    for word, stage_list in zip(words, pair[0]):
        for stage, ways in stage_list:
            # Only the stage of the empty row has no ways.
            found[(word, stage)] = [(morph_costs[number], ((word, earlier),), ("morph", number))
                                    for earlier, number in ways] or [(0, (), BEGIN)]
    for first, last, label, ways in pair[1]:
        found[(first, last, label)] = [cell_way(words, rule_costs, (first, last, label), way) for way in ways]
    labels = [] if grammar.start is None else grammar.labels(grammar.start)
    found[WHOLE] = [(0, ((0, len(words), label),), TOP) for label in labels if (0, len(words), label) in found]
    return found


def cell_way(words, rule_costs, cell, way):
    first, last, label = cell
    if way[0] == "word":
        return (0, ((words[first], way[1]),), ("word", label))
    _, number, cuts, labels = way
    cells = tuple(zip((first, *cuts), (*cuts, last), labels))
    return (rule_costs[number], cells, ("rule", number, label))


def children_first(ways, key):
    """Return the list of the key and of all keys that it needs, each one behind those that it needs itself."""
    placed, waiting = {}, [key]
    while waiting:
        last = waiting.pop()
        if last not in placed:
            missing = [child for _, children, _ in ways[last] for child in children if child not in placed]
            if missing:
                waiting.extend([last, *missing])
            else:
                placed[last] = True
    return list(placed)


class Translation:
    """What the readings of words and the trees of a forest have to do with one another.

    The entry of all readings is the last one.
    """

    def __init__(self, grammar, words):
        self.pair = table(grammar, words)
        self._words = list(words)
        self._begin = (grammar.first, "", no_marks(grammar))
        self._many_parts = [len(parts) for _, parts, _, _ in grammar.rules()]
        ways = key_ways(grammar, words, self.pair)
        keys = children_first(ways, WHOLE)
        indexes = {key: index for index, key in enumerate(keys)}
        self.entries = [[(cost, tuple([indexes[child] for child in children])) for cost, children, _ in ways[key]]
                        for key in keys]
        self._signs = [[sign for _, _, sign in ways[key]] for key in keys]
        self._pairs = {(key, children, sign): (indexes[key], way)
                       for key in keys for way, (_, children, sign) in enumerate(ways[key])}
        # From a stage of a word and a morph to the next stage.
        self._later = {(*children[0], sign[1]): key[1] for key, children, sign in self._pairs if sign[0] == "morph"}

    def derivation_of(self, tree):
        """Return the derivation for which the tree of all readings stands."""
        nodes, label, row = [], None, []
        for entry, way in tree:
            sign = self._signs[entry][way]
            if sign[0] == "rule":
                nodes.append(sign)
            elif sign[0] == "word":
                label, row = sign[1], []
            elif sign[0] == "morph":
                row.append(sign[1])
            elif sign == BEGIN:
                # The tree leads from the last morph to the first one.
                nodes.append(("word", label, tuple(row[::-1])))
        return nodes

    def tree_of(self, derivation):
        """Return the tree for the derivation. Raises NoReading if it is not a reading of the words."""
        # Read from its end, so that the cells of the children are known; the first child is the last of them.
        backwards, cells, begin = [], [], len(self._words)
        for node in reversed(derivation):
            if node[0] == "rule":
                children = self._children(node[1], cells)
                del cells[len(cells) - len(children):]
                cell = (children[0][0], children[-1][1], node[2])
                backwards.append(self._pair_of(cell, children, node))
            else:
                begin -= 1
                cell = (begin, begin + 1, node[1])
                backwards.extend(self._word_pairs(cell, node[2]))
            cells.append(cell)
        backwards.append(self._pair_of(WHOLE, tuple(cells), TOP))
        return backwards[::-1]

    def _children(self, number, cells):
        """Return the tuple of the cells that are the children of a node with the rule."""
        if not 0 <= number < len(self._many_parts) or self._many_parts[number] > len(cells):
            raise NoReading(f"there is no rule {number}, or it has too few children")
        return tuple(cells[-self._many_parts[number]:][::-1])

    def _word_pairs(self, cell, row):
        """Return the list of the pairs for a word node, the last one first."""
        if cell[0] < 0:
            raise NoReading("there are more word nodes than words")
        word, stage = self._words[cell[0]], self._begin
        pairs = [self._pair_of((word, stage), (), BEGIN)]
        for number in row:
            # Without a later stage, there is no such pair.
            later = self._later.get((word, stage, number))
            pairs.append(self._pair_of((word, later), ((word, stage),), ("morph", number)))
            stage = later
        return [*pairs, self._pair_of(cell, ((word, stage),), ("word", cell[2]))]

    def _pair_of(self, key, children, sign):
        if (key, children, sign) not in self._pairs:
            raise NoReading("the derivation is not a reading of the words")
        return self._pairs[(key, children, sign)]
