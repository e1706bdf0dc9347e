"""Slow readings of [5] to [9] and [16]: all states that can be reached, read by read, and long records."""

from random import Random

from tests.helper import lists_of, runs_of

MOST = 10 ** 30


def reads_of(state):
    """Return (rank, change, state after it) of each read that can follow a state, as [5] and [6] say."""
    readers = len(state)
    found = []
    for position in sorted(set(state)):
        rank = sum(1 for other in state if other > position)
        change = 0 if readers == 1 else 1 if rank == 0 else -1 if rank == readers - 1 else 0
        found.append((rank, change, (*state[:rank], position + 1, *state[rank + 1:])))
    return found


def states_behind(states, change):
    """Return the set of the states that a read with this change reaches from some of these."""
    return {after for state in states for _, one, after in reads_of(state) if one == change}


def walks(readers, most):
    """Yield all lists of at most so many changes, each one with the reached states after 0, 1, .. reads."""
    def extend(changes, layers):
        yield changes, layers
        if len(changes) < most:
            for change in (1, 0, -1):
                yield from extend([*changes, change], [*layers, states_behind(layers[-1], change)])
    yield from extend([], [{(0,) * readers}])


def possible_walks(readers, most):
    """Yield the walks of all possible lists of at most so many changes."""
    return (walk for walk in walks(readers, most) if walk[1][-1])


def walk_of(readers, changes):
    """Return the reached states after 0, 1, .. reads with these changes."""
    layers = [{(0,) * readers}]
    for change in changes:
        layers.append(states_behind(layers[-1], change))
    return layers


def kept_by_end(changes, layers):
    """Return the states of histories with all these changes, and the ranks that their reads have."""
    kept, ranks = [layers[-1]], []
    for change, layer in zip(reversed(changes), reversed(layers[:-1])):
        links = [(state, rank) for state in layer for rank, one, after in reads_of(state)
                 if one == change and after in kept[0]]
        kept.insert(0, {state for state, _ in links})
        ranks.insert(0, sorted({rank for _, rank in links}))
    return kept, ranks


def small_states(readers, most):
    """Return all descending lists of so many positions up to the greatest one."""
    return [state for state in lists_of(range(most + 1), readers) if state == sorted(state, reverse=True)]


def totals_at(record, number):
    """Return (P(n), Z(n), M(n)) as [7] says."""
    totals = {1: 0, 0: 0, -1: 0}
    for change, count in record:
        totals[change] += max(0, min(count, number))
        number -= count
    return totals[1], totals[0], totals[-1]


def ends_of(record):
    """Return the numbers of reads at the ends of the runs, and 0."""
    return [sum(totals) for totals in totals_at_ends(record)]


def totals_at_ends(record):
    """Return (P(n), Z(n), M(n)) for n = 0 and at the ends of the runs."""
    rows = [(0, 0, 0)]
    for change, count in record:
        plus, zero, minus = rows[-1]
        rows.append((plus + count * (change == 1), zero + count * (change == 0), minus + count * (change == -1)))
    return rows


def first_reads(record, number):
    """Return the record of so many first reads."""
    ends = ends_of(record)
    return [(change, min(count, number - start)) for (change, count), start in zip(record, ends) if start < number]


def are_obstruction(readers, word, totals):
    """Return whether first reads with these totals are an obstruction with this word, as [8] says."""
    plus, zero, minus = totals
    return {
        "single": readers == 1 and plus + minus > 0,
        "two": readers == 2 and (zero > 0 or minus > plus),
        "few": readers >= 3 and zero > (readers - 2) * plus,
        "many": readers >= 3 and (readers - 2) * minus > zero,
    }[word]


def can_stand(record, state, number):
    """Return whether a state can stand after so many reads of a possible record, as [16] says.

    The inequalities are looked at after these reads and at the ends of all runs: in between, each of
    them is as good as at one of the two ends, or better.
    """
    now = totals_at(record, number)
    middle = state[1:-1]
    if list(state) != sorted(state, reverse=True) or (state[0], sum(middle), state[-1]) != now:
        return False
    rows = totals_at_ends(record)
    before = [now] + [totals for totals in rows if sum(totals) < number]
    behind = [now] + [totals for totals in rows if sum(totals) > number]
    return (all(sum(min(plus, entry) for entry in middle) >= zero for plus, zero, _ in before)
            and all(sum(max(minus, entry) for entry in middle) <= zero for _, zero, minus in behind))


def evenly(total, many):
    """Return so many descending numbers with this sum that differ by at most 1."""
    return [(total + many - 1 - at) // many for at in range(many)]


def changes_of(record):
    """Return the list of the changes of a record."""
    return [change for change, count in record for _ in range(count)]


def rooms_of(readers, plus, zero, minus):
    """Return how many reads with each change can follow, as [8] says; None for any number."""
    if readers == 1:
        return {1: 0, 0: None, -1: 0}
    if readers == 2:
        return {1: None, 0: 0, -1: plus - minus}
    return {1: None, 0: (readers - 2) * plus - zero, -1: zero // (readers - 2) - minus}


def possible_record(readers, runs, most, random):
    """Return a record of at most so many runs that is possible for these readers, some only just."""
    # The greater these numbers, the smaller the part of the room that is taken.
    parts = {1: random.choice([1, readers, 3 * readers]), 0: random.choice([1, 1, 2]), -1: random.choice([1, 3, 20])}
    record, totals = [], {1: 0, 0: 0, -1: 0}
    while len(record) < runs:
        rooms = rooms_of(readers, totals[1], totals[0], totals[-1])
        before = record[-1][0] if record else None
        changes = [change for change in rooms if change != before and rooms[change] != 0]
        if not changes:
            break
        change = random.choice(changes)
        room = most if rooms[change] is None else min(most, rooms[change])
        room = max(1, room // parts[change])
        record.append((change, random.choice([room, room, max(1, room - 1), random.randint(1, room), 1])))
        totals[change] += record[-1][1]
    return record


def long_records(readers, runs, seed, many):
    """Return records with great and small counts that are possible for these readers."""
    random = Random(seed)
    return [possible_record(readers, runs, random.choice([3, 50, 10 ** 6, MOST]), random) for _ in range(many)]


def records_to_walk(readers, reads, seed, many):
    """Return records that are possible for these readers, with so few reads that all states can be listed."""
    random = Random(seed)
    found = []
    while len(found) < many:
        record = possible_record(readers, 12, random.choice([2, 4, 7]), random)
        found.append(first_reads(record, reads))
    return found
