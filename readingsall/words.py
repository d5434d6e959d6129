"""Seams and rows of morphs (points 9 and 11 to 13 of the document)."""

from readingsall.marks import add_marks, mark_places, marked_labels, no_marks
from readingsall.steps import Steps, steps_to_end


def join(seams, text, more):
    """Return the text joined with the text of a morph, by the first of the seams that is met."""
    for left, right, joined in seams:
        if text.endswith(left) and more.startswith(right):
            return text[:len(text) - len(left)] + joined + more[len(right):]
    return text + more


def row_text(grammar, row):
    """Return the text of the row."""
    seams, morphs = grammar.seams(), grammar.morphs()
    text = ""
    for number in row:
        text = join(seams, text, morphs[number][0])
    return text


def row_state(grammar, row):
    """Return the state of the row, or None if it has none."""
    targets = {(state, kind): target for state, kind, target in grammar.arcs()}
    morphs = grammar.morphs()
    state = grammar.first
    for number in row:
        # There is no arc from None.
        state = targets.get((state, morphs[number][1]))
    return state


def row_marks(grammar, row):
    """Return the marks of the row, or None if it has a conflict."""
    places, morphs = mark_places(grammar), grammar.morphs()
    marks = no_marks(grammar)
    for number in row:
        marks = add_marks(marks, morphs[number][2], places)
        if marks is None:
            return None
    return marks


def row_labels(grammar, row):
    """Return the list of the labels that the row has, in ascending order."""
    state, marks = row_state(grammar, row), row_marks(grammar, row)
    if not row or state is None or marks is None:
        return []
    return marked_labels(grammar, state, marks)


def rows_up_to(grammar, most):
    """Return the list of all rows with at most so many morphs that have a label, shorter ones first."""
    steps, missing = Steps(grammar), steps_to_end(grammar)
    rows = [((), grammar.first, no_marks(grammar))]
    found = []
    for length in range(1, most + 1):
        longer = [((*row, number), target, merged) for row, state, marks in rows
                  for number, target, merged in steps.after(state, marks)]
        # A row that cannot come to an end any more has no label and leads to none.
        rows = [row for row in longer if row[1] in missing and length + missing[row[1]] <= most]
        if not rows:
            break
        # At an end, marks without a conflict always leave a label.
        found.extend([row for row, state, _ in rows if missing[state] == 0])
    return found
