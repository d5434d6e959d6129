"""The steps by which rows and stages grow (points 11, 12 and 18)."""

from readingsall.marks import add_marks, mark_places


class Steps:
    """The steps of a grammar: each leads by one morph from a state and marks to such."""

    def __init__(self, grammar):
        self._places = mark_places(grammar)
        kinds = {}
        for number, (_, kind, marks, _, _) in enumerate(grammar.morphs()):
            kinds.setdefault(kind, []).append((number, marks))
        moves = {}
        for state, kind, target in grammar.arcs():
            by_kind = [(number, target, marks) for number, marks in kinds.get(kind, [])]
            moves.setdefault(state, []).extend(by_kind)
        self._moves = {state: sorted(moves[state]) for state in moves}

    def after(self, state, marks):
        """Return the list of the tuples (number of the morph, target, marks), in ascending order."""
        found = []
        for number, target, more in self._moves.get(state, []):
            merged = add_marks(marks, more, self._places)
            if merged is not None:
                found.append((number, target, merged))
        return found


def steps_to_end(grammar):
    """Return a dict from states to the least number of arcs from them to a state that has an end."""
    sources = {}
    for state, _, target in grammar.arcs():
        sources.setdefault(target, []).append(state)
    found = {state: 0 for state, _ in grammar.ends()}
    layer = list(found)
    while layer:
        earlier = []
        for target in layer:
            for state in sources.get(target, []):
                if state not in found:
                    found[state] = found[target] + 1
                    earlier.append(state)
        layer = earlier
    return found
