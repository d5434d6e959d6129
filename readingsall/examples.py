"""Examples of derivations for a label (points 11 to 15 of the document)."""

from readingsall.features import VARIABLE_SIGN, choose_values, part_labels, value_choices
from readingsall.marks import agrees, marked_labels, no_marks
from readingsall.steps import Steps


def example(grammar, label):
    """Return a derivation that derives the label from some list of forms, or None if there is none."""
    smallest = smallest_nodes(grammar)
    if label not in smallest[label[0]]:
        return None
    nodes, waiting = [], [label]
    while waiting:
        last = waiting.pop()
        _, node, labels = smallest[last[0]][last]
        nodes.append(node)
        waiting.extend(labels[::-1])
    return nodes


def smallest_nodes(grammar):
    """Return a dict from categories to dicts from their derived labels to the first nodes of small derivations.

    A node stands in a tuple with the number of nodes of the derivation and with the labels of its children. No
    derivation of the label has fewer nodes.
    """
    found = {category: {} for category, _ in grammar.categories()}
    rows = labelled_rows(grammar)
    for label in rows:
        found[label[0]][label] = (1, ("word", label, rows[label]), ())
    rules, choices = grammar.rules(), value_choices(grammar)
    changed = {category: True for category in found}
    while changed:
        earlier, changed = changed, {}
        for number, (pattern, parts, _, _) in enumerate(rules):
            if any([category in earlier for category, _ in parts]):
                lefts, known = smallest_lefts(pattern, parts, found, choices), found[pattern[0]]
                for size, left, labels in lefts:
                    # The derivations of the children are smaller, so no node ever needs itself.
                    if left not in known or size < known[left][0]:
                        known[left] = (size, ("rule", number, left), labels)
                        changed[pattern[0]] = True
    return found


def smallest_lefts(pattern, parts, found, choices):
    """Return the list of the tuples (number of nodes, label, labels of the children) that a rule gives.

    Of children that give the same label, it need not tell all, but tells those with the fewest nodes.
    """
    rows = {(): (1, (), {})}
    for place, part in enumerate(parts):
        # Values that neither a later part nor the pattern asks for are forgotten, which keeps the rows few.
        needed = variables_of([pattern, *parts[place + 1:]])
        longer = {}
        for size, labels, chosen in rows.values():
            for label, (more, _, _) in found[part[0]].items():
                values = choose_values((part,), (label,), chosen)
                if values is not None:
                    kept = {name: values[name] for name in needed if name in values}
                    key = tuple(kept.values())
                    if key not in longer or size + more < longer[key][0]:
                        longer[key] = (size + more, (*labels, label), kept)
        rows = longer
    return [(size, left, labels) for size, labels, chosen in rows.values()
            for left in part_labels(pattern, chosen, choices)]


def variables_of(patterns):
    return [term for _, terms in patterns for term in terms if term.startswith(VARIABLE_SIGN)]


def labelled_rows(grammar):
    """Return a dict from all labels that a row has to such a row."""
    steps = Steps(grammar)
    found, known = {}, {}
    rows = [((), grammar.first, no_marks(grammar))]
    while rows:
        longer = []
        for row, state, marks in rows:
            for number, target, merged in steps.after(state, marks):
                if not is_covered(merged, known.setdefault(target, [])):
                    known[target].append(merged)
                    longer.append(((*row, number), target, merged))
        for row, state, marks in longer:
            for label in marked_labels(grammar, state, marks):
                found.setdefault(label, row)
        rows = longer
    return found


def is_covered(marks, known):
    """Return True if some of the known marks, which all belong to one state, are among these marks.

    A row with the fewer marks has all labels of a row with these ones, and may go on wherever that one may.
    """
    for fewer in known:
        if agrees(marks, fewer):
            return True
    return False
