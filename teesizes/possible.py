"""The numbers of readers that can have made a record, and what obstructs the other ones."""

from teesizes.checks import is_integer_between, is_pair, require_readers
from teesizes.errors import Impossible
from teesizes.records import require_record, totals_by_run, totals_of_first

# Only the numbers of readers of this module may be so great.
MOST_POSSIBLE = 10 ** 39


def require_record_and_readers(record, readers, most):
    """Raise InvalidRecord, or InvalidReaders unless there are from 1 to so many readers."""
    require_record(record)
    require_readers(readers, most)


def small_numbers(record):
    """Return the list of those of the numbers 1 and 2 for which a record is possible."""
    return [readers for readers in (1, 2) if first_obstruction(record, readers) is None]


def bounds_from_three(record):
    """Return the least and the greatest possible number from 3 on (None: no limit), or None."""
    least = 3
    greatest = None
    # The inequalities are tightest at ends of runs, so these tell the bounds.
    for plus, zero, minus in totals_by_run(record):
        if plus > 0:
            least = max(least, 2 - (-zero // plus))
        elif zero > 0:
            return None
        if minus > 0:
            most = 2 + zero // minus
            greatest = most if greatest is None else min(greatest, most)
    if greatest is not None and greatest < least:
        return None
    return (least, greatest)


def possible_readers(record):
    """Return the least and the greatest possible number of readers (None: no limit), or None."""
    require_record(record)
    small = small_numbers(record)
    bounds = bounds_from_three(record)
    if not small:
        return bounds
    # The possible numbers have no gap, so 2 is among the small ones where there are greater ones.
    greatest = small[-1] if bounds is None else bounds[1]
    return (small[0], greatest)


def reads_to_go(readers, change, totals):
    """Return how many reads with a change can follow possible first reads (None: no limit)."""
    plus, zero, minus = totals
    if readers == 1:
        return None if change == 0 else 0
    if change == 1:
        return None
    if change == 0:
        return (readers - 2) * plus - zero
    return plus - minus if readers == 2 else zero // (readers - 2) - minus


def word_of(readers, change):
    """Return the word of an obstruction whose last read has this change."""
    if readers < 3:
        return "single" if readers == 1 else "two"
    return "few" if change == 0 else "many"


def first_obstruction(record, readers):
    """Return the obstruction with the least number of reads, or None if the record is possible."""
    for (change, count), totals in zip(record, totals_by_run(record)):
        most = reads_to_go(readers, change, totals)
        if most is not None and count > most:
            return (word_of(readers, change), sum(totals) + most + 1)
    return None


def require_possible(record, readers):
    """Raise Impossible unless the record is possible."""
    found = first_obstruction(record, readers)
    if found is not None:
        raise Impossible(found)


def obstruction(record, readers):
    """Return the obstruction with the least number of reads, or None if the record is possible."""
    require_record_and_readers(record, readers, MOST_POSSIBLE)
    return first_obstruction(record, readers)


def is_possible(record, readers):
    """Return whether the record is possible for so many readers."""
    return obstruction(record, readers) is None


def obstructs_by(readers, word, totals):
    """Return whether this word names what is wrong with first reads that have these totals."""
    plus, zero, minus = totals
    if readers == 1:
        return word == "single" and plus + minus > 0
    if readers == 2:
        return word == "two" and (zero > 0 or minus > plus)
    if word == "few":
        return zero > (readers - 2) * plus
    return word == "many" and (readers - 2) * minus > zero


def obstructs(record, readers, value):
    """Return whether any value is an obstruction of the record."""
    require_record_and_readers(record, readers, MOST_POSSIBLE)
    if not is_pair(value):
        return False
    word, number = value
    reads = sum(totals_by_run(record)[-1])
    if not isinstance(word, str) or not is_integer_between(number, 1, reads):
        return False
    return obstructs_by(readers, word, totals_of_first(record, number))
