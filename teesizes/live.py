"""Sources with readers that read items and can revert their reads."""

from teesizes.checks import is_list_up_to, require_names, require_number
from teesizes.errors import BufferFull, InvalidHistory, InvalidName, NothingToUndo
from teesizes.histories import change_of_rank
from teesizes.records import merged

MOST_FIRST_READS = 300
MOST_LIMIT = 10 ** 30


def require_names_that_read(names, history):
    """Raise InvalidHistory unless the value is a list of so many of these names."""
    if not is_list_up_to(history, MOST_FIRST_READS):
        raise InvalidHistory("a history is a list of a few names")
    readers = {name: True for name in names}
    for name in history:
        if not isinstance(name, str) or name not in readers:
            raise InvalidHistory("only a reader can have read")


class Source:
    """A source with readers, each at its own position."""

    MOST_READERS = 200

    def __init__(self, *names):
        require_names(names)
        # The names stand in the order in which they were given.
        self._positions = {name: 0 for name in names}
        self._reads = []

    @classmethod
    def from_history(cls, names, history):
        """Return a source with these readers after they have read in this order."""
        require_names(names)
        require_names_that_read(names, history)
        source = cls(*names)
        for name in history:
            source.read_item(name)
        return source

    def _change_of(self, name):
        """Return the change of the next read of a reader."""
        return change_of_rank(len(self._positions), self.rank_of(name))

    def read_item(self, name):
        """Read one item for a reader and return the number of the item."""
        item = self.position_of(name)
        self._reads.append((name, self._change_of(name)))
        self._positions[name] = item + 1
        return item

    def undo(self):
        """Revert the last read that has not been reverted."""
        if not self._reads:
            raise NothingToUndo("there is no read to revert")
        name, _ = self._reads.pop()
        self._positions[name] -= 1

    @property
    def size(self):
        """The size of the buffer."""
        return max(self._positions.values()) - min(self._positions.values())

    @property
    def is_even(self):
        """Whether all readers are at the same position."""
        return self.size == 0

    def position_of(self, name):
        """Return the position of a reader."""
        if not isinstance(name, str) or name not in self._positions:
            raise InvalidName("no reader has this name")
        return self._positions[name]

    def rank_of(self, name):
        """Return the rank of the next read of a reader."""
        position = self.position_of(name)
        return len([other for other in self._positions.values() if other > position])

    def _places(self):
        """Return the list of the names with their positions, in the order in which they were given."""
        return list(self._positions.items())

    def names_in_order(self):
        """Return the list of the names by descending position, equal ones in the order given."""
        places = self._places()
        order = sorted([(-position, at) for at, (_, position) in enumerate(places)])
        return [places[at][0] for _, at in order]

    def current_history(self):
        """Return the list of the names that have read."""
        return [name for name, _ in self._reads]

    def current_record(self):
        """Return the record of the reads."""
        return merged([(change, 1) for _, change in self._reads])

    def _take_over(self, other):
        """Give this source the positions and the reads of another one with the same readers."""
        self._positions = dict(other._positions)
        self._reads = list(other._reads)

    def duplicate(self):
        """Return an independent source with the same readers and reads."""
        names = list(self._positions)
        twin = Source(*names)
        twin._take_over(self)
        return twin

    def __len__(self):
        return len(self._reads)

    def __eq__(self, other):
        # A limited source is a source of the other class, and is equal to its own kind only.
        return (isinstance(other, Source) and not isinstance(other, LimitedSource)
                and self._places() == other._places())


class LimitedSource(Source):
    """A source whose buffer has at most so many items."""

    def __init__(self, limit, *names):
        require_number(limit, MOST_LIMIT)
        super().__init__(*names)
        self._limit = limit

    @classmethod
    def with_names(cls, limit, names):
        """Return a limited source with the readers of a list of names."""
        require_number(limit, MOST_LIMIT)
        require_names(names)
        return cls(limit, *names)

    @classmethod
    def from_history(cls, names, history):
        """Return a source without a limit, as Source does."""
        return Source.from_history(names, history)

    @property
    def limit(self):
        """The greatest number of items in the buffer."""
        return self._limit

    def read_item(self, name):
        """Read one item for a reader, if the buffer has room, and return the number of the item."""
        if self.size + self._change_of(name) > self._limit:
            raise BufferFull(self._limit)
        return super().read_item(name)

    def duplicate(self):
        """Return an independent source with the same limit, readers and reads."""
        names = list(self._positions)
        twin = LimitedSource(self._limit, *names)
        twin._take_over(self)
        return twin

    def __eq__(self, other):
        return isinstance(other, LimitedSource) and self._limit == other._limit and self._places() == other._places()
