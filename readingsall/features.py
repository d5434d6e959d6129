"""Which labels a rule fits (points 4, 5 and 6 of the document).

Choices are a dict from categories to a list with the values of each of their attributes. Chosen values are a
dict from variables to values.
"""

ANY_VALUE = "*"
VARIABLE_SIGN = "?"


def label_list(category, choices):
    """Return the list of the labels of the category that take one value from each list, in order.

    They stand in ascending order if the values of each list do.
    """
    rows = [()]
    for values in choices:
        rows = [(*row, value) for row in rows for value in values]
    return [(category, row) for row in rows]


def choose_values(patterns, labels, chosen):
    """Return the chosen values, completed such that each pattern agrees with its label, or None.

    None tells that the patterns and the labels do not agree, whatever is chosen for the other variables.
    """
    if len(patterns) != len(labels):
        return None
    # A copy, since the caller may try the same choice with other labels.
    values = dict(chosen)
    for pattern, label in zip(patterns, labels):
        if pattern[0] != label[0]:
            return None
        for term, value in zip(pattern[1], label[1]):
            if term.startswith(VARIABLE_SIGN):
                if values.setdefault(term, value) != value:
                    return None
            elif term != ANY_VALUE and term != value:
                return None
    return values


def value_choices(grammar):
    """Return the choices of all categories of the grammar."""
    values = dict(grammar.attributes())
    return {category: [values[name] for name in attributes] for category, attributes in grammar.categories()}


def fits(rule, label, labels):
    """Return True if the rule fits the label and the tuple of labels, otherwise False."""
    pattern, parts = rule[:2]
    return choose_values((pattern, *parts), (label, *labels), {}) is not None


def left_labels(grammar, number, labels):
    """Return the list of all labels that the rule with the number fits together with the labels.

    They stand in ascending order. A number without a rule gives the empty list.
    """
    rules = grammar.rules()
    if not 0 <= number < len(rules):
        return []
    pattern, parts = rules[number][:2]
    chosen = choose_values(parts, labels, {})
    if chosen is None:
        return []
    # Grammar.labels has them in ascending order already.
    return [label for label in grammar.labels(pattern[0])
            if choose_values((pattern,), (label,), chosen) is not None]


def part_labels(part, chosen, choices):
    """Return the list of the labels that agree with the part when these values are chosen."""
    # A variable stands at places of one attribute only, so it stands in one part at most once.
    category, terms = part
    rows = [term_values(term, chosen, values) for term, values in zip(terms, choices[category])]
    return label_list(category, rows)


def term_values(term, chosen, values):
    """Return the list of those values of an attribute for which the term may stand."""
    if term in chosen:
        return [chosen[term]]
    if term == ANY_VALUE or term.startswith(VARIABLE_SIGN):
        return list(values)
    return [term]
