"""The marks of rows and of stages, and the labels that agree with them (points 12, 13 and 18).

Places are a dict from the attributes of a grammar to their indexes.
"""

NO_MARK = ""


def mark_places(grammar):
    """Return the places of the grammar."""
    return {name: place for place, (name, _) in enumerate(grammar.attributes())}


def no_marks(grammar):
    """Return the marks of the empty row."""
    return (NO_MARK,) * len(grammar.attributes())


def add_marks(marks, more, places):
    """Return the marks together with those of a morph, or None if they conflict."""
    values = list(marks)
    for attribute, value in more:
        place = places[attribute]
        if values[place] not in (NO_MARK, value):
            return None
        values[place] = value
    return tuple(values)


def marked_labels(grammar, state, marks):
    """Return the list of the labels that agree with the marks and whose categories have an end with the state.

    They stand in ascending order.
    """
    places = mark_places(grammar)
    attributes = dict(grammar.categories())
    found = []
    for other, category in grammar.ends():
        if other == state:
            own_marks = [marks[places[attribute]] for attribute in attributes[category]]
            found.extend([label for label in grammar.labels(category) if agrees(label[1], own_marks)])
    return sorted(found)


def agrees(values, marks):
    """Return True if each value is the mark at its place, where there is one."""
    for value, mark in zip(values, marks):
        if mark not in (NO_MARK, value):
            return False
    return True
