"""The positions and ranks that the readers can have in histories with a record."""

from teesizes.checks import MOST_READERS, is_integer_between, require_number
from teesizes.errors import InvalidRank
from teesizes.possible import require_possible, require_record_and_readers
from teesizes.records import first_runs, totals_by_run, totals_of_first


def require_request(record, readers, number, reads_behind):
    """Raise an error unless record and readers are valid and so many reads can stand behind number."""
    require_record_and_readers(record, readers, MOST_READERS)
    require_number(number, sum(totals_by_run(record)[-1]) - reads_behind)


def moment_after(record, number):
    """Return what limits the states after so many reads.

    That is the number of these reads with the change 0, the totals at this moment and at the ends of
    the runs before it, and the totals at this moment and at the ends of the runs behind it.
    """
    rows = totals_by_run(record)
    totals = totals_of_first(record, number)
    until = [row for row in rows if sum(row) < number] + [totals]
    since = [totals] + [row for row in rows if sum(row) > number]
    return (totals[1], until, since)


def least_entry(readers, rank, moment):
    """Return the least entry that a rank between the first and the last one has at a moment."""
    made, until, since = moment
    above = rank - 1
    others = readers - 1 - rank
    # No middle entry above was ever greater than the first one, so this entry and those below it,
    # none of them greater than this one, made at least the rest of the reads.
    limits = [-((above * plus - zero) // others) for plus, zero, minus in until]
    # This entry and those below it may still be behind the last one of a later moment, but by no
    # more than the reads that come until then.
    limits_since = [minus - (zero - made) // others for plus, zero, minus in since]
    return max(limits + limits_since)


def greatest_entry(readers, rank, moment):
    """Return the greatest entry that a rank between the first and the last one has at a moment."""
    made, until, since = moment
    below = readers - 2 - rank
    # This entry and the middle ones above it, none of them smaller than this one, were not ahead
    # of the first one of an earlier moment, and have made at most all reads since then.
    limits = [plus + (made - zero) // rank for plus, zero, minus in until]
    # At a later moment the middle entries below have reached the last one, so this entry and those
    # above it have made at most the rest of the reads.
    limits_since = [(zero - below * minus) // rank for plus, zero, minus in since]
    return min(limits + limits_since)


def position_range(record, readers, number, rank):
    """Return the least and the greatest entry of a rank after so many reads."""
    require_request(record, readers, number, 0)
    if not is_integer_between(rank, 0, readers - 1):
        raise InvalidRank("there is no reader with this rank")
    require_possible(record, readers)
    plus, zero, minus = totals_of_first(record, number)
    if readers == 1:
        return (zero, zero)
    if rank == 0:
        return (plus, plus)
    if rank == readers - 1:
        return (minus, minus)
    moment = moment_after(record, number)
    return (least_entry(readers, rank, moment), greatest_entry(readers, rank, moment))


def can_read(readers, rank, before, after):
    """Return whether a read of a middle rank can lead from one moment to the next one."""
    # Before the read each middle entry above is greater by at least 1. The reads that remain without
    # these are shared by all middle entries: the nearer this one is to its share, the more even
    # are the others, and an even state is the last one that becomes impossible.
    shared = before[0] - (rank - 1)
    low = shared // (readers - 2)
    high = -(-shared // (readers - 2))
    # Where this entry has at most its share, those below can be equal to it, so that only its least
    # value before the read counts; otherwise those above can be equal to it after the read, so that
    # only its greatest value then counts.
    return least_entry(readers, rank, before) <= low or greatest_entry(readers, rank, after) > high


def possible_ranks(record, readers, number):
    """Return the ascending list of the ranks that the read with this number has in some history."""
    require_request(record, readers, number, 1)
    require_possible(record, readers)
    change = first_runs(record, number + 1)[-1][0]
    if readers == 1 or change == 1:
        return [0]
    if change == -1:
        return [readers - 1]
    before = moment_after(record, number)
    after = moment_after(record, number + 1)
    return [rank for rank in range(1, readers - 1) if can_read(readers, rank, before, after)]
