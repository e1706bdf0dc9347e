"""A slow reading of [4], [5], [18] and [19]: the lists of positions after 0, 1, .. reads."""

from tests.helper import runs_of


class SlowSource:
    """What a source must answer after each of its reads."""

    def __init__(self, names):
        self.names = list(names)
        self.layers = [[0] * len(self.names)]
        self.history = []

    def positions(self):
        """Return the list of the positions, in the order of the names."""
        return self.layers[-1]

    def position(self, name):
        """Return the position of a reader."""
        return self.positions()[self.names.index(name)]

    def size(self):
        """Return the greatest position minus the least one."""
        return max(self.positions()) - min(self.positions())

    def read(self, name):
        """Add a read and return the number of the item."""
        item = self.position(name)
        at = self.names.index(name)
        self.layers.append([position + (number == at) for number, position in enumerate(self.positions())])
        self.history.append(name)
        return item

    def undo(self):
        """Remove the last read."""
        self.layers.pop()
        self.history.pop()

    def rank(self, name):
        """Return the number of the readers that have a greater position."""
        return sum(1 for position in self.positions() if position > self.position(name))

    def order(self):
        """Return the names by descending position: those of the greatest one, then those of the next one, .."""
        places = list(zip(self.names, self.positions()))
        return [name for wanted in sorted(set(self.positions()), reverse=True)
                for name, position in places if position == wanted]

    def record(self):
        """Return the record of the changes of the size."""
        sizes = [max(positions) - min(positions) for positions in self.layers]
        return runs_of([after - before for before, after in zip(sizes, sizes[1:])])

    def grows(self, name):
        """Return whether the next read of a reader makes the buffer greater."""
        before = self.size()
        self.read(name)
        after = self.size()
        self.undo()
        return after > before


class SourceChecks:
    """Assertions for test cases with sources."""

    def assert_like(self, source, slow, names=None):
        """Assert that a source answers as a slow one does; about all its readers, or these."""
        self.assert_same(source.size, slow.size())
        self.assertIs(source.is_even, slow.size() == 0)
        self.assert_same(source.names_in_order(), slow.order())
        self.assert_same(source.current_history(), slow.history)
        self.assert_same(source.current_record(), slow.record())
        self.assert_same(len(source), len(slow.history))
        for name in slow.names if names is None else names:
            self.assert_same(source.position_of(name), slow.position(name))
            self.assert_same(source.rank_of(name), slow.rank(name))
