"""The stages of a word (points 17 and 18 of the document)."""

from readingsall.marks import marked_labels, no_marks
from readingsall.steps import Steps
from readingsall.words import join


def reach(grammar):
    """Return the number of letters of the longest left of the seams, or 0."""
    return max([len(left) for left, _, _ in grammar.seams()], default=0)


def possible(grammar, text, form):
    """Return True if the text is possible for the form, otherwise False."""
    return is_possible(reach(grammar), text, form)


def is_possible(most_taken, text, form):
    """Return True if the text is the form or may still become it, as a seam takes at most so many letters."""
    if len(text) >= len(form):
        return text == form
    return form.startswith(text[:max(0, len(text) - most_taken)])


def stages(grammar, form):
    """Return the list of the tuples (stage, ways) of the form."""
    ways = unordered_ways(grammar, form)
    return [(stage, sorted(ways[stage], key=lambda way: (way[1], way[0]))) for stage in sorted(ways)]


def unordered_ways(grammar, form):
    """Return a dict from the stages of the form to lists of their ways."""
    if grammar.first is None:
        return {}
    steps, seams, morphs = Steps(grammar), grammar.seams(), grammar.morphs()
    most_taken = reach(grammar)
    ways = {(grammar.first, "", no_marks(grammar)): []}
    waiting = list(ways)
    while waiting:
        stage = waiting.pop()
        for number, target, marks in steps.after(stage[0], stage[2]):
            text = join(seams, stage[1], morphs[number][0])
            if is_possible(most_taken, text, form):
                later = (target, text, marks)
                if later not in ways:
                    ways[later] = []
                    waiting.append(later)
                ways[later].append((stage, number))
    return ways


def is_complete(grammar, stage, form, label):
    """Return True if the stage of the form is complete for the label, otherwise False."""
    state, text, marks = stage
    return text == form and label in marked_labels(grammar, state, marks)


def rows_of(grammar, form):
    """Return the list of all rows whose text is the form and that have a label, in ascending order."""
    # Such a row leads to a stage: a seam takes no more letters than the reach, and each morph adds letters.
    ways = unordered_ways(grammar, form)
    waiting = [(stage, ()) for stage in ways if stage[1] == form and marked_labels(grammar, stage[0], stage[2])]
    found = []
    while waiting:
        stage, row = waiting.pop()
        if not ways[stage]:
            # Only the stage of the empty row has no ways.
            found.append(row)
        for earlier, number in ways[stage]:
            waiting.append((earlier, (number, *row)))
    return sorted(found)
