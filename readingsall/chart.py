"""The table of a text (point 19 of the document)."""

from readingsall.features import choose_values, part_labels, value_choices
from readingsall.marks import marked_labels
from readingsall.stages import stages


def table(grammar, words):
    """Return the table of the words: the list of their stage lists, and the list of the cells with their ways."""
    stage_lists = [stages(grammar, word) for word in words]
    chart = Chart(grammar, len(words))
    # From the last word to the first one, as a cell may need cells that begin later.
    for first in range(len(words) - 1, -1, -1):
        chart.fill(first, word_ways(grammar, words[first], stage_lists[first]))
    return (stage_lists, chart.cells())


def word_ways(grammar, word, stage_list):
    """Return the list of the pairs of a label of the word and of a way with a stage that is complete for it."""
    found = []
    for stage, _ in stage_list:
        if stage[1] == word:
            found.extend([(label, ("word", stage)) for label in marked_labels(grammar, stage[0], stage[2])])
    return found


def rules_by_first_part(grammar):
    """Return a dict from categories to the list of the pairs (number, rule) whose first part has the category."""
    found = {}
    for number, rule in enumerate(grammar.rules()):
        found.setdefault(rule[1][0][0], []).append((number, rule))
    return found


class Chart:
    """The cells of some number of words, which are found for one first index after another."""

    def __init__(self, grammar, many):
        self._many = many
        self._choices = value_choices(grammar)
        self._rules = rules_by_first_part(grammar)
        self._ways = {}
        # For each first index, a dict from categories to lists of the pairs (last, label) of its cells.
        self._begun = [{} for _ in range(many + 1)]

    def fill(self, first, ways):
        """Find the cells that begin at the index, from the pairs (label, way) of its word.

        All cells that begin later must have been found before.
        """
        waiting = [[] for _ in range(self._many + 1)]
        waiting[first + 1].extend(ways)
        for last in range(first + 1, self._many + 1):
            while waiting[last]:
                label, way = waiting[last].pop()
                cell = (first, last, label)
                if cell in self._ways:
                    self._ways[cell].append(way)
                else:
                    self._ways[cell] = [way]
                    self._begun[first].setdefault(label[0], []).append((last, label))
                    for end, left, longer in self._ways_with(last, label):
                        waiting[end].append((left, longer))

    def _ways_with(self, last, label):
        """Return the list of the tuples (end, label, way) of the ways whose first child ends there with the label."""
        found = []
        for number, (pattern, parts, _, _) in self._rules.get(label[0], []):
            for ends, labels, chosen in self._child_rows(parts, last, label):
                way = ("rule", number, ends[:-1], labels)
                found.extend([(ends[-1], left, way) for left in part_labels(pattern, chosen, self._choices)])
        return found

    def _child_rows(self, parts, last, label):
        """Return the list of the tuples (ends, labels, chosen values) of children that agree with the parts."""
        chosen = choose_values(parts[:1], (label,), {})
        rows = [] if chosen is None else [((last,), (label,), chosen)]
        for part in parts[1:]:
            longer = []
            for ends, labels, values in rows:
                for end, other in self._begun[ends[-1]].get(part[0], []):
                    more = choose_values((part,), (other,), values)
                    if more is not None:
                        longer.append(((*ends, end), (*labels, other), more))
            rows = longer
        return rows

    def cells(self):
        """Return the list of the tuples (first, last, label, ways) of all cells that were found."""
        # The ways with a word come first, and those with a rule have no stages to compare with.
        return [(*cell, sorted(self._ways[cell], key=lambda way: (way[0] == "rule", way)))
                for cell in sorted(self._ways)]
