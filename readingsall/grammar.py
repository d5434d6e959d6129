"""Grammars (points 4 to 11 of the document)."""

from readingsall.checks import (
    check_all_different, check_cost, check_gloss_row, check_letters, check_name, grows, is_variable,
)
from readingsall.errors import BadGrammar, BadName, Duplicate, NoGrowth, Ring, Unknown
from readingsall.features import ANY_VALUE, label_list, value_choices
from readingsall.names import is_gloss
from readingsall.rings import find_ring

MOST_VALUES = 6
MOST_ATTRIBUTES = 3
MOST_PARTS = 4
LONGEST_MORPH = 12
LONGEST_SIDE = 4
LONGEST_JOINED = 8


class Grammar:
    """A grammar, which has nothing at first.

    Each method checks everything before it changes anything.
    """

    def __init__(self):
        # A dict stands for a list where nothing may stand twice: it keeps the order of its keys.
        self._values = {}
        self._categories = {}
        self._start = None
        self._first = None
        self._rules = []
        self._morphs = []
        self._targets = {}
        self._ends = {}
        self._joins = {}

    def add_attribute(self, name, values):
        """Add an attribute with a list of values. Raises BadName, Duplicate or BadGrammar."""
        for text in [name, *values]:
            check_name(text)
        if name in self._values:
            raise Duplicate(f"there is an attribute {name}")
        check_all_different(values)
        if not 1 <= len(values) <= MOST_VALUES:
            raise BadGrammar(f"an attribute has 1 to {MOST_VALUES} values")
        self._values[name] = tuple(values)

    def add_category(self, name, attributes):
        """Add a category with a list of attributes. Raises BadName, Duplicate, Unknown or BadGrammar."""
        check_name(name)
        if name in self._categories:
            raise Duplicate(f"there is a category {name}")
        check_all_different(attributes)
        for attribute in attributes:
            self._check_attribute(attribute)
        if len(attributes) > MOST_ATTRIBUTES:
            raise BadGrammar(f"a category has at most {MOST_ATTRIBUTES} attributes")
        self._categories[name] = tuple(attributes)

    def set_start(self, category):
        """Set the start category, in place of an earlier one. Raises Unknown."""
        self._check_category(category)
        self._start = category

    def set_first(self, state):
        """Set the first state, in place of an earlier one. Raises BadName."""
        check_name(state)
        self._first = state

    def add_rule(self, pattern, parts, *, cost=0, gloss_row=()):
        """Add a rule and return its number. Raises BadGrammar, Unknown, again BadGrammar, or Ring."""
        if not 1 <= len(parts) <= MOST_PARTS:
            raise BadGrammar(f"a rule has 1 to {MOST_PARTS} parts")
        patterns = [pattern, *parts]
        for category, _ in patterns:
            self._check_category(category)
        self._check_terms(patterns)
        check_cost(cost)
        check_gloss_row(gloss_row, len(parts))
        rule = (pattern, parts, cost, gloss_row)
        self._check_rings(rule)
        self._rules.append(rule)
        return len(self._rules) - 1

    def add_morph(self, text, kind, *, marks=(), cost=0, gloss=""):
        """Add a morph and return its number. Raises BadName, Unknown, BadGrammar or NoGrowth."""
        check_letters(text, 1, LONGEST_MORPH)
        check_name(kind)
        if gloss != "" and not is_gloss(gloss):
            raise BadName(f"{gloss!r} is neither a gloss nor the empty string")
        self._check_marks(marks)
        check_cost(cost)
        for seam in self.seams():
            if not grows(seam, text):
                raise NoGrowth(seam, text)
        self._morphs.append((text, kind, marks, cost, gloss))
        return len(self._morphs) - 1

    def add_arc(self, state, kind, target):
        """Add an arc from a state by a kind to a state. Raises BadName or Duplicate."""
        for text in (state, kind, target):
            check_name(text)
        if (state, kind) in self._targets:
            raise Duplicate(f"there is an arc from {state} by {kind}")
        self._targets[(state, kind)] = target

    def add_end(self, state, category):
        """Add an end. Raises BadName, Unknown or Duplicate."""
        check_name(state)
        self._check_category(category)
        if (state, category) in self._ends:
            raise Duplicate(f"there is an end of {state} and {category}")
        self._ends[(state, category)] = True

    def add_seam(self, left, right, joined):
        """Add a seam. Raises BadName, Duplicate or NoGrowth."""
        check_letters(left, 1, LONGEST_SIDE)
        check_letters(right, 1, LONGEST_SIDE)
        check_letters(joined, 0, LONGEST_JOINED)
        if (left, right) in self._joins:
            raise Duplicate(f"there is a seam of {left} and {right}")
        seam = (left, right, joined)
        for text, _, _, _, _ in self._morphs:
            if not grows(seam, text):
                raise NoGrowth(seam, text)
        self._joins[(left, right)] = joined

    def attributes(self):
        """Return the list of the tuples (name, values)."""
        return list(self._values.items())

    def categories(self):
        """Return the list of the tuples (name, attributes)."""
        return list(self._categories.items())

    def rules(self):
        """Return the list of the tuples (pattern, parts, cost, gloss_row)."""
        return list(self._rules)

    def morphs(self):
        """Return the list of the tuples (text, kind, marks, cost, gloss)."""
        return list(self._morphs)

    def arcs(self):
        """Return the list of the tuples (state, kind, target)."""
        return [(*start, target) for start, target in self._targets.items()]

    def ends(self):
        """Return the list of the tuples (state, category)."""
        return list(self._ends)

    def seams(self):
        """Return the list of the tuples (left, right, joined)."""
        return [(*sides, joined) for sides, joined in self._joins.items()]

    @property
    def start(self):
        """The start category, or None."""
        return self._start

    @property
    def first(self):
        """The first state, or None."""
        return self._first

    def labels(self, category):
        """Return the list of all labels of the category in ascending order. Raises Unknown."""
        self._check_category(category)
        return label_list(category, [sorted(self._values[name]) for name in self._categories[category]])

    def _check_attribute(self, attribute):
        if attribute not in self._values:
            raise Unknown(f"there is no attribute {attribute!r}")

    def _check_category(self, category):
        if category not in self._categories:
            raise Unknown(f"there is no category {category!r}")

    def _check_terms(self, patterns):
        attributes = {}
        for category, terms in patterns:
            if len(terms) != len(self._categories[category]):
                raise BadGrammar(f"{terms!r} are not as many terms as {category} has attributes")
            for attribute, term in zip(self._categories[category], terms):
                if is_variable(term):
                    if attributes.setdefault(term, attribute) != attribute:
                        raise BadGrammar(f"{term} stands at places of two attributes")
                elif term != ANY_VALUE and term not in self._values[attribute]:
                    raise BadGrammar(f"{term!r} is no term for {attribute}")

    def _check_rings(self, rule):
        pattern, parts, _, _ = rule
        # Only a unit rule can close a ring, and then each ring leads through it.
        if len(parts) > 1:
            return
        units = [unit for unit in [*self._rules, rule] if len(unit[1]) == 1]
        ring = find_ring(units, value_choices(self), pattern[0])
        if ring is not None:
            raise Ring(ring)

    def _check_marks(self, marks):
        for attribute, _ in marks:
            self._check_attribute(attribute)
        for attribute, value in marks:
            if value not in self._values[attribute]:
                raise BadGrammar(f"{value!r} is no value of {attribute}")
        if len({attribute for attribute, _ in marks}) != len(marks):
            raise BadGrammar("an attribute is marked twice")
