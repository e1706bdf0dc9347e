"""How many lists of ranks and histories have a record, and which lists."""

from teesizes.checks import require_number
from teesizes.errors import InvalidRanks, TooLong
from teesizes.histories import change_of_rank, is_ranks
from teesizes.possible import require_record_and_readers
from teesizes.records import changes_by, count_reads

# Only the records of this module are so short, and made by so few readers.
MOST_COUNTED_READERS = 6
MOST_COUNTED_READS = 60


def changes_to_count(record, readers):
    """Return the list of the changes of a record, or raise an error unless its lists of ranks can be counted."""
    require_record_and_readers(record, readers, MOST_COUNTED_READERS)
    reads = count_reads(record)
    if reads > MOST_COUNTED_READS:
        raise TooLong(reads)
    return changes_by(record)


def first_state(readers):
    """Return the state before the first read."""
    return (0,) * readers


def state_behind(state, rank):
    """Return the state after a read of this rank."""
    return state[:rank] + (state[rank] + 1,) + state[rank + 1:]


def reads_from(state, change):
    """Return the rank and the state after it of each read with this change, by ascending ranks."""
    readers = len(state)
    ranks = [rank for rank in range(readers) if change_of_rank(readers, rank) == change]
    # Of equal entries only the first one is the rank of a read.
    return [(rank, state_behind(state, rank)) for rank in ranks if rank == 0 or state[rank - 1] > state[rank]]


def reached_states(changes, readers):
    """Return the lists of the states that the first 0, 1, .. reads can lead to."""
    layers = [[first_state(readers)]]
    for change in changes:
        behind = {after: True for state in layers[-1] for _, after in reads_from(state, change)}
        layers.append(list(behind))
    return layers


def numbers_of_ways(changes, readers):
    """Return, for the states after 0, 1, .. reads, in how many ways the ranks of the other reads can follow."""
    layers = reached_states(changes, readers)
    ways = [{state: 1 for state in layers[-1]}]
    for change, states in reversed(list(zip(changes, layers))):
        behind = ways[-1]
        ways.append({state: sum([behind[after] for _, after in reads_from(state, change)]) for state in states})
    return ways[::-1]


def count_ranks(record, readers):
    """Return the number of lists of ranks with this record."""
    changes = changes_to_count(record, readers)
    return numbers_of_ways(changes, readers)[0][first_state(readers)]


def all_ranks(record, readers):
    """Yield the lists of ranks with this record in ascending order."""
    changes = changes_to_count(record, readers)
    ways = numbers_of_ways(changes, readers)
    waiting = [((), first_state(readers))]
    while waiting:
        ranks, state = waiting.pop()
        number = len(ranks)
        if number == len(changes):
            yield list(ranks)
        else:
            # The last one that waits goes on first, so the smallest rank comes last.
            for rank, after in reversed(reads_from(state, changes[number])):
                # Where nothing can follow, a search would find no list for a long time.
                if ways[number + 1][after] > 0:
                    waiting.append((ranks + (rank,), after))


def nth_ranks(record, readers, index):
    """Return the list of ranks with this record that has an index among all of them."""
    changes = changes_to_count(record, readers)
    ways = numbers_of_ways(changes, readers)
    state = first_state(readers)
    require_number(index, ways[0][state] - 1)
    ranks = []
    left = index
    for change, behind in zip(changes, ways[1:]):
        reads = reads_from(state, change)
        chosen = 0
        while left >= behind[reads[chosen][1]]:
            left -= behind[reads[chosen][1]]
            chosen += 1
        rank, state = reads[chosen]
        ranks.append(rank)
    return ranks


def ranks_index(record, readers, ranks):
    """Return the index of a list of ranks among all that have this record."""
    changes = changes_to_count(record, readers)
    if not is_ranks(readers, ranks) or [change_of_rank(readers, rank) for rank in ranks] != changes:
        raise InvalidRanks("the value is not a list of ranks with this record")
    state = first_state(readers)
    index = 0
    for rank, change, behind in zip(ranks, changes, numbers_of_ways(changes, readers)[1:]):
        index += sum([behind[after] for smaller, after in reads_from(state, change) if smaller < rank])
        state = state_behind(state, rank)
    return index


def count_histories(record, readers):
    """Return the number of histories with this record."""
    changes = changes_to_count(record, readers)
    counts = {first_state(readers): 1}
    for change in changes:
        behind = {}
        for state, count in counts.items():
            for rank, after in reads_from(state, change):
                # Each reader at the position of this rank can be the one that reads.
                behind[after] = behind.get(after, 0) + count * state.count(state[rank])
        counts = behind
    return sum(counts.values())
