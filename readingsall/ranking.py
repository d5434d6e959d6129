"""The readings of a text in their order (points 21 to 23 of the document)."""

from readingsall.forest import Forest
from readingsall.translation import Translation


class Ranking:
    """The readings of the words by the grammar as it is when the ranking is created."""

    def __init__(self, grammar, words):
        self._translation = Translation(grammar, words)
        self._forest = Forest(self._translation.entries)
        self._top = len(self._translation.entries) - 1
        self._reading_count = self._forest.total(self._top)

    @property
    def reading_count(self):
        """The number of the readings."""
        return self._reading_count

    def by_cost(self):
        """Return the list of the pairs of a cost and of the number of readings with it, in ascending order."""
        return self._forest.counts(self._top)

    def reading(self, number):
        """Return the reading with the number. Raises NoReading if there is none."""
        return self._translation.derivation_of(self._forest.tree(self._top, number))

    def number(self, derivation):
        """Return the number of the reading. Raises NoReading if the derivation is not one of the words."""
        return self._forest.number(self._translation.tree_of(derivation))

    def readings(self, start):
        """Yield the readings from the number on, in order."""
        for number in range(start, self._reading_count):
            yield self.reading(number)

    def table(self):
        """Return the table of the words."""
        stage_lists, cells = self._translation.pair
        return ([[(stage, list(ways)) for stage, ways in stage_list] for stage_list in stage_lists],
                [(first, last, label, list(ways)) for first, last, label, ways in cells])
