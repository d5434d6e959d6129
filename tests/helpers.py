"""What several tests need: the whole content of a grammar, and calls that must be refused."""

import unittest

from readingsall.errors import ReadingsError
from readingsall.grammar import Grammar

NO_NAMES = ("", "A", "1", "1a", "a b", "a_b", " a", "a ", "*", "?a", "aB", "a.b", "a" * 13, "=", "~")
GOOD_GLOSSES = ("a", "A", "0", ".", "-", "a" * 20, "PL.nom-1", "-.-", "zZ9", "1")
BAD_GLOSSES = ("", "a" * 21, "a b", " ", "a_b", "a+b", "+", "=", "$1", "a:", "?", "*", "~", "a,b", "a " + "b" * 30)


def content(grammar):
    """All that the methods and properties of the grammar tell."""
    told = [grammar.attributes(), grammar.categories(), grammar.rules(), grammar.morphs(), grammar.arcs(),
            grammar.ends(), grammar.seams(), grammar.start, grammar.first]
    return told + [grammar.labels(name) for name, _ in grammar.categories()]


def make(attributes=(), categories=(), rules=(), morphs=(), arcs=(), ends=(), seams=(), start=None, first=None):
    """A grammar with all of this; a rule or a morph is a tuple as the grammar returns it."""
    grammar = Grammar()
    for name, values in attributes:
        grammar.add_attribute(name, list(values))
    for name, names in categories:
        grammar.add_category(name, list(names))
    for seam in seams:
        grammar.add_seam(*seam)
    for pattern, parts, cost, gloss_row in rules:
        grammar.add_rule(pattern, parts, cost=cost, gloss_row=gloss_row)
    for text, kind, marks, cost, gloss in morphs:
        grammar.add_morph(text, kind, marks=marks, cost=cost, gloss=gloss)
    for arc in arcs:
        grammar.add_arc(*arc)
    for end in ends:
        grammar.add_end(*end)
    if start is not None:
        grammar.set_start(start)
    if first is not None:
        grammar.set_first(first)
    return grammar


class GrammarTest(unittest.TestCase):
    def refuse(self, grammar, wanted, method, *args, **more):
        """Check that the call raises this very error and changes nothing; return the error."""
        with self.subTest(method, args=args, more=more):
            kept = content(grammar)
            with self.assertRaises(ReadingsError) as held:
                getattr(grammar, method)(*args, **more)
            self.assertIs(type(held.exception), wanted, held.exception)
            self.assertEqual(content(grammar), kept)
            return held.exception
