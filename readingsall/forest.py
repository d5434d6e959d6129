"""Forests, which count trees without listing them (points 24 and 25 of the document).

Counts are a dict from costs, in ascending order, to numbers of trees. The place of a tree is its index among
the trees of its entry that have its cost.
"""

from readingsall.errors import BadForest, NoReading


def check_entries(entries):
    for index, ways in enumerate(entries):
        for cost, children in ways:
            if cost < 0:
                raise BadForest(f"a way of the entry {index} has the cost {cost}")
            for child in children:
                if not 0 <= child < index:
                    raise BadForest(f"a way of the entry {index} has the child {child}")


def joined_counts(counts, others):
    """Return the counts of the pairs of two trees, one of each."""
    found = {}
    for cost, many in counts.items():
        for more, more_many in others.items():
            whole = cost + more
            found[whole] = found.get(whole, 0) + many * more_many
    return found


class Forest:
    """A forest. What was worked out for an entry is kept, as it never changes."""

    def __init__(self, entries):
        check_entries(entries)
        self._entries = [list(ways) for ways in entries]
        self._totals = {}
        self._counts = {}
        # By children: the counts of the rows of trees of all of them, of those from the second one on, and so on,
        # down to the one row of no trees. Many ways may have the same children.
        self._rests = {}

    def counts(self, entry):
        """Return the list of the pairs of a cost and of the number of trees with it, in ascending order."""
        return list(self._counts_of(entry).items())

    def total(self, entry):
        """Return the number of the trees of the entry."""
        # Not the sum of the counts, since there may be very many costs.
        missing = self._missing(entry, self._totals)
        for index in missing:
            self._totals[index] = sum([self._product(children) for _, children in self._entries[index]])
        return self._totals[entry]

    def tree(self, entry, number):
        """Return the tree of the entry with the number. Raises NoReading if there is none."""
        if number < 0:
            raise NoReading(f"there is no tree with the number {number}")
        place = number
        for cost, many in self._counts_of(entry).items():
            if place < many:
                return self._tree_at(entry, cost, place)
            place -= many
        raise NoReading(f"the entry {entry} has no tree with the number {number}")

    def number(self, tree):
        """Return the number of the tree among those of its entry. Raises NoReading if it is not a tree."""
        # Read from its end, so that the trees of the children are known; the first child is the last of them.
        known = []
        for entry, way in reversed(tree):
            children = self._children(entry, way)
            begin = len(known) - len(children)
            below = known[begin:][::-1]
            if [child for child, _, _ in below] != list(children):
                raise NoReading("the list is not a tree")
            del known[begin:]
            known.append(self._placed(entry, way, [(cost, place) for _, cost, place in below]))
        if len(known) != 1:
            raise NoReading("the list is not one tree")
        entry, cost, place = known[0]
        return place + sum([many for less, many in self._counts_of(entry).items() if less < cost])

    def cost(self, tree):
        """Return the cost of the tree."""
        return sum([self._entries[entry][way][0] for entry, way in tree])

    def trees(self, entry, start):
        """Yield the trees of the entry from the number on, in order."""
        for number in range(start, self.total(entry)):
            yield self.tree(entry, number)

    def _missing(self, entry, known):
        """Return the list of the entries of which trees of the entry are made and that are not known, ascending."""
        found, waiting = {}, [entry]
        while waiting:
            index = waiting.pop()
            if index not in known and index not in found:
                found[index] = True
                for _, children in self._entries[index]:
                    waiting.extend(children)
        return sorted(found)

    def _product(self, children):
        many = 1
        for child in children:
            many = many * self._totals[child]
        return many

    def _counts_of(self, entry):
        missing = self._missing(entry, self._counts)
        for index in missing:
            found = {}
            for cost, children in self._entries[index]:
                if children not in self._rests:
                    self._rests[children] = self._rest_counts(children)
                for more, many in self._rests[children][0].items():
                    found[cost + more] = found.get(cost + more, 0) + many
            self._counts[index] = {cost: found[cost] for cost in sorted(found)}
        return self._counts[entry]

    def _rest_counts(self, children):
        rests = [{0: 1}]
        for child in reversed(children):
            counts = self._counts[child]
            rests.append(counts if len(rests) == 1 else joined_counts(counts, rests[-1]))
        return rests[::-1]

    def _many_by(self, entry, way, cost):
        """Return the number of the trees of the entry that begin with the way and have the cost."""
        own, children = self._entries[entry][way]
        return self._rests[children][0].get(cost - own, 0)

    def _tree_at(self, entry, cost, place):
        """Return the tree of the entry that has the cost and the place."""
        tree, waiting = [], [(entry, cost, place)]
        while waiting:
            index, whole, rest = waiting.pop()
            way = 0
            while rest >= self._many_by(index, way, whole):
                rest -= self._many_by(index, way, whole)
                way += 1
            tree.append((index, way))
            waiting.extend(self._child_places(index, way, whole, rest)[::-1])
        return tree

    def _child_places(self, entry, way, cost, place):
        """Return the list of the children with the costs and the places of their trees.

        The place that is passed is the one among the trees that begin with the way.
        """
        own, children = self._entries[entry][way]
        left, found = cost - own, []
        for child, rest in zip(children, self._rests[children][1:]):
            for child_cost, many in self._counts[child].items():
                others = rest.get(left - child_cost, 0)
                if place < many * others:
                    found.append((child, child_cost, place // others))
                    break
                place -= many * others
            left -= child_cost
            place = place % others
        return found

    def _children(self, entry, way):
        if not 0 <= entry < len(self._entries) or not 0 <= way < len(self._entries[entry]):
            raise NoReading(f"the entry {entry} or its way {way} is not there")
        return self._entries[entry][way][1]

    def _placed(self, entry, way, below):
        """Return the entry with the cost and the place of its tree, from those of the trees of the children."""
        self._counts_of(entry)
        own, children = self._entries[entry][way]
        left = sum([cost for cost, _ in below])
        whole = own + left
        place = sum([self._many_by(entry, earlier, whole) for earlier in range(way)])
        for child, (cost, child_place), rest in zip(children, below, self._rests[children][1:]):
            for less, many in self._counts[child].items():
                if less < cost:
                    place += many * rest.get(left - less, 0)
            left -= cost
            place += child_place * rest[left]
        return (entry, whole, place)
