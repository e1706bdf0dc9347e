"""The states at the end of the histories with a record."""

from teesizes.checks import MOST_READERS, is_state
from teesizes.errors import InvalidState
from teesizes.possible import require_possible, require_record_and_readers
from teesizes.records import totals_by_run


def even_entries(total, many):
    """Return so many descending entries with this sum that differ by at most 1."""
    if many == 0:
        return []
    entry, greater = divmod(total, many)
    return [entry + 1] * greater + [entry] * (many - greater)


def even_state(record, readers):
    """Return the state at the end of some history whose middle entries differ by at most 1."""
    require_record_and_readers(record, readers, MOST_READERS)
    require_possible(record, readers)
    plus, zero, minus = totals_by_run(record)[-1]
    if readers == 1:
        return [zero]
    return [plus, *even_entries(zero, readers - 2), minus]


def has_ends(state, totals):
    """Return whether the ends of a state and the sum of its middle entries are right."""
    plus, zero, minus = totals
    if len(state) == 1:
        return state[0] == zero
    return state[0] == plus and state[-1] == minus and sum(state[1:-1]) == zero


def sums_of_smaller(entries, limits):
    """Return the sum of the smaller ones of a limit and each entry, for each limit.

    The entries are in descending order, the limits in ascending order.
    """
    sums = []
    greater = len(entries)
    rest = 0
    for limit in limits:
        while greater > 0 and entries[greater - 1] <= limit:
            greater -= 1
            rest += entries[greater]
        sums.append(greater * limit + rest)
    return sums


def first_wrong_prefix(record, middle):
    """Return the least number of first reads that these middle entries leave no room for, or None."""
    rows = totals_by_run(record)
    rooms = sums_of_smaller(middle, [plus for plus, zero, minus in rows])
    for run, totals, room in zip(record, rows, rooms):
        # Only a read with the change 0 needs room: the sum never shrinks.
        left = room - totals[1]
        if run[0] == 0 and run[1] > left:
            return sum(totals) + left + 1
    return None


def misfit(record, readers, state):
    """Return what keeps a state from standing at the end of a history with the record, or None."""
    require_record_and_readers(record, readers, MOST_READERS)
    if not is_state(state) or len(state) != readers:
        raise InvalidState("the state is not one of so many readers")
    require_possible(record, readers)
    if not has_ends(state, totals_by_run(record)[-1]):
        return ("ends",)
    if readers == 1:
        return None
    number = first_wrong_prefix(record, state[1:-1])
    return None if number is None else ("prefix", number)


def fits(record, readers, state):
    """Return whether a state stands at the end of some history with the record."""
    return misfit(record, readers, state) is None
