"""Records: the changes of the size of the buffer, in runs of equal ones."""

from teesizes.checks import (
    MOST_ITEMS, are_integers_between, is_integer_between, is_list_up_to, is_pair, require_number,
)
from teesizes.errors import InvalidChanges, InvalidRecord, TooLong

MOST_COUNT = 10 ** 30
MOST_CHANGES = 2000


def is_run(value):
    """Return whether any value is a run."""
    return is_pair(value) and is_integer_between(value[0], -1, 1) and is_integer_between(value[1], 1, MOST_COUNT)


def is_record(value):
    """Return whether any value is a record."""
    if not is_list_up_to(value, MOST_ITEMS):
        return False
    change_before = None
    for run in value:
        if not is_run(run) or run[0] == change_before:
            return False
        change_before = run[0]
    return True


def require_record(record):
    """Raise InvalidRecord unless the value is a record."""
    if not is_record(record):
        raise InvalidRecord("a record is a list of runs with different neighbours")


def merged(runs):
    """Return the runs with neighbours of the same change made one."""
    record = []
    for change, count in runs:
        if record and record[-1][0] == change:
            record[-1] = (change, record[-1][1] + count)
        else:
            record.append((change, count))
    return record


def record_by(changes):
    """Return the record of a list of changes."""
    if not are_integers_between(changes, MOST_ITEMS, -1, 1):
        raise InvalidChanges("changes are a list of 1, 0 and -1")
    return merged([(change, 1) for change in changes])


def changes_by(record):
    """Return the list of the changes of a record."""
    reads = count_reads(record)
    if reads > MOST_CHANGES:
        raise TooLong(reads)
    changes = []
    for change, count in record:
        changes.extend([change] * count)
    return changes


def count_reads(record):
    """Return the number of reads of a record."""
    require_record(record)
    return sum([run[1] for run in record])


def totals_by_run(record):
    """Return the numbers of the changes 1, 0 and -1 before the first run of a record and after each one."""
    totals = {1: 0, 0: 0, -1: 0}
    rows = [(0, 0, 0)]
    for change, count in record:
        totals[change] += count
        rows.append((totals[1], totals[0], totals[-1]))
    return rows


def first_runs(record, number):
    """Return the runs of the first reads of a record, the last one as far as they reach."""
    runs = []
    left = number
    for change, count in record:
        if left > 0:
            runs.append((change, min(count, left)))
            left -= count
    return runs


def totals_of_first(record, number):
    """Return how many of the first reads have the changes 1, 0 and -1, for valid arguments."""
    return totals_by_run(first_runs(record, number))[-1]


def totals_after(record, number):
    """Return how many of the first reads have the changes 1, 0 and -1."""
    require_number(number, count_reads(record))
    return totals_of_first(record, number)


def joined(*records):
    """Return the record of several records, one after the other."""
    for record in records:
        require_record(record)
    result = merged([run for record in records for run in record])
    for run in result:
        if run[1] > MOST_COUNT:
            raise TooLong(run[1])
    if len(result) > MOST_ITEMS:
        raise TooLong(len(result))
    return result
