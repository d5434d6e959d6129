"""Derivations: whether they hold, what they cost and what they mean (points 14 to 16 of the document).

Of a derivation that is gone through from its end, the trees behind a node are known when it is reached. They
stand in lists with the first one of them last, so that the last ones are the children of the node.
"""

from readingsall.features import fits
from readingsall.words import row_labels, row_text


def label_of(node):
    return node[2] if node[0] == "rule" else node[1]


def derives(grammar, words, label, derivation):
    """Return True if the derivation derives the label from the words, otherwise False."""
    leaves = [node for node in derivation if node[0] == "word"]
    if len(leaves) != len(words) or top_label(grammar, derivation) != label:
        return False
    return all([is_leaf(grammar, word, node) for word, node in zip(words, leaves)])


def top_label(grammar, derivation):
    """Return the label of the tree that the derivation describes, or None.

    None tells that it does not describe exactly one tree, that a label is not one of the grammar or that a
    rule does not fit. The words are not looked at.
    """
    rules = grammar.rules()
    known = {label: True for category, _ in grammar.categories() for label in grammar.labels(category)}
    labels = []
    for node in reversed(derivation):
        label = label_of(node)
        if label not in known:
            return None
        if node[0] == "rule":
            if not 0 <= node[1] < len(rules):
                return None
            rule = rules[node[1]]
            many = len(rule[1])
            # If there are too few children, the rule does not fit them.
            if not fits(rule, label, tuple(labels[-many:][::-1])):
                return None
            del labels[-many:]
        labels.append(label)
    return labels[0] if len(labels) == 1 else None


def is_leaf(grammar, word, node):
    """Return True if the row of the word node has the word as its text, and the label, otherwise False."""
    _, label, row = node
    morphs = grammar.morphs()
    if not all([0 <= number < len(morphs) for number in row]):
        return False
    return row_text(grammar, row) == word and label in row_labels(grammar, row)


def is_reading(grammar, words, derivation):
    """Return True if the derivation is a reading of the words, otherwise False."""
    # Without a start category, no label has it.
    if not derivation or label_of(derivation[0])[0] != grammar.start:
        return False
    return derives(grammar, words, label_of(derivation[0]), derivation)


def cost(grammar, derivation):
    """Return the cost of the derivation."""
    rules, morphs = grammar.rules(), grammar.morphs()
    total = 0
    for node in derivation:
        if node[0] == "rule":
            total += rules[node[1]][2]
        else:
            total += sum([morphs[number][3] for number in node[2]])
    return total


def gloss(grammar, derivation):
    """Return the gloss of the derivation."""
    rules, morphs = grammar.rules(), grammar.morphs()
    glosses = []
    for node in reversed(derivation):
        if node[0] == "rule":
            _, parts, _, gloss_row = rules[node[1]]
            children = glosses[-len(parts):][::-1]
            del glosses[-len(parts):]
            chosen = [children[item - 1] if isinstance(item, int) else item for item in gloss_row]
            glosses.append(join_glosses(" ", chosen))
        else:
            glosses.append(join_glosses("+", [morphs[number][4] for number in node[2]]))
    return glosses[0]


def join_glosses(sign, glosses):
    """Return the glosses that are not empty, joined by the sign."""
    return sign.join([text for text in glosses if text != ""])


def words_of(grammar, derivation):
    """Return the list of the texts of the rows of the word nodes, from left to right."""
    return [row_text(grammar, node[2]) for node in derivation if node[0] == "word"]
