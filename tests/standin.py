"""A stand-in for the class Grammar: it takes what that one refuses, such as rings and one attribute twice."""

from itertools import product


class StandIn:
    """A grammar that is given whole: lists of attributes, of categories and of rules."""

    def __init__(self, attributes, categories, rules):
        self.kept = (tuple(attributes), tuple(categories), tuple(rules))

    def attributes(self):
        return list(self.kept[0])

    def categories(self):
        return list(self.kept[1])

    def rules(self):
        return list(self.kept[2])

    def labels(self, category):
        values = dict(self.kept[0])
        attributes = dict(self.kept[1])[category]
        return sorted((category, chosen) for chosen in product(*[values[name] for name in attributes]))

    def all_labels(self):
        return [label for name, _ in self.kept[1] for label in self.labels(name)]
