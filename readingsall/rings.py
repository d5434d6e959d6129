"""Rings of unit rules (points 6 and 7 of the document).

Unit rules are kept in a dict from the categories of their patterns to lists of them.
"""

from readingsall.features import choose_values, label_list, part_labels


def find_ring(units, choices, category):
    """Return a ring of a list of unit rules, or None. Each ring of them leads through the category."""
    # No ring leads through a category that is no part of a unit rule; this spares most searches.
    if not any([unit[1][0][0] == category for unit in units]):
        return None
    rules = by_category(units)
    # A ring may have any number of labels, so the path is kept in lists and not in a recursion. What
    # waits stands once for the beginning and once for each label of the path.
    path, places, done = [], {}, {}
    waiting = [label_list(category, choices[category])]
    while waiting:
        if waiting[-1]:
            label = waiting[-1].pop()
            if label in places:
                return path[places[label]:] + [label]
            if label not in done:
                places[label] = len(path)
                path.append(label)
                waiting.append(next_labels(label, rules, choices))
        else:
            waiting.pop()
            if path:
                label = path.pop()
                del places[label]
                # No ring can be reached from it, so it is not searched again.
                done[label] = True
    return None


def by_category(units):
    rules = {}
    for unit in units:
        rules.setdefault(unit[0][0], []).append(unit)
    return rules


def next_labels(label, rules, choices):
    """Return the list of the labels to which the unit rules lead from the label."""
    found = []
    for pattern, parts, _, _ in rules.get(label[0], []):
        chosen = choose_values((pattern,), (label,), {})
        if chosen is not None:
            found.extend(part_labels(parts[0], chosen, choices))
    return found
