"""Rings of unit rules (points 6 and 7 of the document).

Choices are a dict from categories to a list with the values of each of their attributes. Unit rules are kept
in a dict from the categories of their patterns to lists of them.
"""

from readingsall.features import ANY_VALUE, VARIABLE_SIGN, choose_values, label_list


def find_ring(units, choices, category):
    """Return a ring of a list of unit rules, or None. Each ring of them leads through the category."""
    # No ring leads through a category that is no part of a unit rule; this spares most searches.
    if not any([unit[1][0][0] == category for unit in units]):
        return None
    rules = by_category(units)
    # A ring may have any number of labels, so the path is kept in lists and not in a recursion. What
    # waits stands once for the beginning and once for each label of the path.
    path, places, done = [], {}, {}
    waiting = [label_list(category, choices[category])]
    while waiting:
        if waiting[-1]:
            label = waiting[-1].pop()
            if label in places:
                return path[places[label]:] + [label]
            if label not in done:
                places[label] = len(path)
                path.append(label)
                waiting.append(next_labels(label, rules, choices))
        else:
            waiting.pop()
            if path:
                label = path.pop()
                del places[label]
                # No ring can be reached from it, so it is not searched again.
                done[label] = True
    return None


def by_category(units):
    rules = {}
    for unit in units:
        rules.setdefault(unit[0][0], []).append(unit)
    return rules


def next_labels(label, rules, choices):
    """Return the list of the labels to which the unit rules lead from the label."""
    found = []
    for pattern, parts, _, _ in rules.get(label[0], []):
        chosen = choose_values((pattern,), (label,), {})
        if chosen is not None:
            found.extend(part_labels(parts[0], chosen, choices))
    return found


def part_labels(part, chosen, choices):
    """Return the list of the labels that agree with the part when these values are chosen."""
    # A variable stands at places of one attribute only, so it stands in one part at most once.
    category, terms = part
    rows = [term_values(term, chosen, values) for term, values in zip(terms, choices[category])]
    return label_list(category, rows)


def term_values(term, chosen, values):
    """Return the list of those values of an attribute for which the term may stand."""
    if term in chosen:
        return [chosen[term]]
    if term == ANY_VALUE or term.startswith(VARIABLE_SIGN):
        return list(values)
    return [term]
