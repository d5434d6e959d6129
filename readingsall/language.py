"""Grammars and derivations as lines (points 26 to 28 of the document)."""

from readingsall.calls import call, morph_tokens, or_nothing, rule_tokens
from readingsall.errors import BadLine, ReadingsError
from readingsall.grammar import Grammar
from readingsall.names import is_name
from readingsall.tokens import NoForm, read_number, split_line, split_once

ROW_SIGN = ":"
NUMBER_DIGITS = 9


def write_grammar(grammar):
    """Return the written form of the grammar, a list of lines."""
    rows = [["attribute", name, *values] for name, values in grammar.attributes()]
    rows.extend([["category", name, *attributes] for name, attributes in grammar.categories()])
    if grammar.start is not None:
        rows.append(["start", grammar.start])
    if grammar.first is not None:
        rows.append(["first", grammar.first])
    rows.extend([["arc", *arc] for arc in grammar.arcs()])
    rows.extend([["end", *end] for end in grammar.ends()])
    rows.extend([["seam", left, right, or_nothing(joined)] for left, right, joined in grammar.seams()])
    rows.extend([morph_tokens(morph) for morph in grammar.morphs()])
    rows.extend([rule_tokens(rule) for rule in grammar.rules()])
    return [" ".join(row) for row in rows]


def read_grammar(lines):
    """Return the grammar of the lines. Raises BadLine with the index of the first line that is not one."""
    grammar = Grammar()
    for index, line in enumerate(lines):
        try:
            call(grammar, split_line(line))
        except ReadingsError:
            raise BadLine(index) from None
    return grammar


def same_grammar(one, other):
    """Return True if the two grammars have the same written form, otherwise False."""
    return write_grammar(one) == write_grammar(other)


def write_derivation(derivation):
    """Return the list of the lines of the nodes, in order."""
    return [" ".join(node_tokens(node)) for node in derivation]


def node_tokens(node):
    if node[0] == "rule":
        _, number, (category, values) = node
        return ["rule", str(number), category, *values]
    _, (category, values), row = node
    return ["word", category, *values, ROW_SIGN, *[str(number) for number in row]]


def read_derivation(lines):
    """Return the list of the nodes of the lines. Raises BadLine with the index of the first line that is not one."""
    nodes = []
    for index, line in enumerate(lines):
        try:
            nodes.append(read_node(split_line(line)))
        except NoForm:
            raise BadLine(index) from None
    return nodes


def read_node(tokens):
    match tokens:
        case ["rule", number, *label]:
            return ("rule", read_number(number, NUMBER_DIGITS), read_label(label))
        case ["word", *rest]:
            names, numbers = split_once(rest, ROW_SIGN)
            return ("word", read_label(names), tuple([read_number(token, NUMBER_DIGITS) for token in numbers]))
        case _:
            raise NoForm("the line is no node")


def read_label(names):
    if not names or not all([is_name(name) for name in names]):
        raise NoForm("the line has no label")
    return (names[0], tuple(names[1:]))
