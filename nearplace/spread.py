"""How the orders that keep a reach are spread over places, moves and pairs."""

from nearplace.orders import check_reach
from nearplace.stands import check_many, first_stand, steps_table
from nearplace.walks import row_walks


def check_row(many, reach):
    check_reach(reach)
    check_many(many)


def moved_by(stand, put):
    """How many things a step puts elsewhere than at their own places."""
    return 1 if put else 0


def far_by(stand, put):
    """How far a step puts a thing from its own place."""
    return abs(put)


def pairs_by(stand, put):
    """How many lesser things come behind the one that a step puts: each that still waits is open in the stand."""
    return len([item for item in stand if item < put])


def put_to(counts, more, gain):
    """The counts, sum by sum, and to them others whose sums are raised by the gain."""
    raised = [0] * gain + more
    longer = max(len(counts), len(raised))
    one = counts + [0] * (longer - len(counts))
    other = raised + [0] * (longer - len(raised))
    return [count + another for count, another in zip(one, other)]


def row_by_sums(table, row, gain_of):
    """The row behind one step more: for each stand that is reached, how many ways lead to it with each sum."""
    behind_row = {}
    for stand in row:
        for put, behind in table[stand]:
            behind_row[behind] = put_to(behind_row.get(behind, []), row[stand], gain_of(stand, put))
    return behind_row


def by_sums(many, reach, gain_of):
    """How many orders have each sum of what their steps gain, up to the greatest sum that some order has."""
    first = first_stand(reach)
    table = steps_table(reach, first)
    row = {first: [1]}
    for place in range(many):
        row = row_by_sums(table, row, gain_of)
    return row[first]


def at_table(many, reach):
    check_row(many, reach)
    return row_walks(many, reach).counts_at()


def by_moved(many, reach):
    check_row(many, reach)
    counts = by_sums(many, reach, moved_by)
    return counts + [0] * (many + 1 - len(counts))


def by_sum(many, reach):
    check_row(many, reach)
    return by_sums(many, reach, far_by)


def by_pairs(many, reach):
    check_row(many, reach)
    return by_sums(many, reach, pairs_by)
