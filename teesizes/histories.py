"""Histories of readers: their positions, ranks, records and sizes."""

from math import factorial

from teesizes.checks import MOST_ITEMS, MOST_READERS, are_integers_between, require_readers, require_state
from teesizes.errors import InvalidHistory, InvalidRanks, TooLong
from teesizes.records import record_by


def is_history(readers, value):
    """Return whether any value is a history of so many readers."""
    require_readers(readers, MOST_READERS)
    return are_integers_between(value, MOST_ITEMS, 0, readers - 1)


def require_history(readers, history):
    """Raise InvalidReaders or InvalidHistory unless this is a history of so many readers."""
    if not is_history(readers, history):
        raise InvalidHistory("a history is a list of numbers of readers")


def positions_after(readers, history):
    """Return the list of the positions, reader by reader."""
    require_history(readers, history)
    positions = [0] * readers
    for reader in history:
        positions[reader] += 1
    return positions


def ranks_of(readers, history):
    """Return the list of the ranks of the reads."""
    require_history(readers, history)
    positions = [0] * readers
    # The readers with a greater position are those that have read the item at the own position.
    readers_of_items = [0] * len(history)
    ranks = []
    for reader in history:
        item = positions[reader]
        ranks.append(readers_of_items[item])
        readers_of_items[item] += 1
        positions[reader] = item + 1
    return ranks


def change_of_rank(readers, rank):
    """Return the change of a read with this rank."""
    # A single reader is the first and the last one at once: the size stays 0.
    if readers == 1:
        return 0
    if rank == 0:
        return 1
    return -1 if rank == readers - 1 else 0


def changes_of(readers, history):
    """Return the list of the changes of the reads."""
    return [change_of_rank(readers, rank) for rank in ranks_of(readers, history)]


def record_of(readers, history):
    """Return the record of the changes."""
    return record_by(changes_of(readers, history))


def greatest_size(readers, history):
    """Return the greatest size that the buffer ever has."""
    size = 0
    greatest = 0
    for change in changes_of(readers, history):
        size += change
        greatest = max(greatest, size)
    return greatest


def keeps_order(readers, ranks):
    """Return whether no rank ever occurs more often than the one before it."""
    counts = [0] * readers
    for rank in ranks:
        if rank > 0 and counts[rank] == counts[rank - 1]:
            return False
        counts[rank] += 1
    return True


def is_ranks(readers, value):
    """Return whether any value is a list of ranks that belongs to some history."""
    require_readers(readers, MOST_READERS)
    return are_integers_between(value, MOST_ITEMS, 0, readers - 1) and keeps_order(readers, value)


def history_by(readers, ranks):
    """Return the history with these ranks whose readers have the smallest numbers."""
    if not is_ranks(readers, ranks):
        raise InvalidRanks("no history has these ranks")
    positions = [0] * readers
    state = [0] * readers
    history = []
    for rank in ranks:
        # Readers at the same position have the same rank, so any of them could read.
        reader = positions.index(state[rank])
        history.append(reader)
        positions[reader] += 1
        state[rank] += 1
    return history


def hook_length(state, rank, column):
    """Return the hook length of a cell of a state."""
    below = [entry for entry in state[rank + 1:] if entry > column]
    return state[rank] - column + len(below)


def count_words(state):
    """Return the number of lists of ranks that lead to a state."""
    require_state(state)
    total = sum(state)
    if total > MOST_ITEMS:
        raise TooLong(total)
    hooks = 1
    for rank, entry in enumerate(state):
        for column in range(entry):
            hooks = hooks * hook_length(state, rank, column)
    return factorial(total) // hooks
