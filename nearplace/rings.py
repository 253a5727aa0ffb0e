"""Orders that keep a reach on a ring, where the first place comes behind the last.

A ring gone round again and again is a row without ends. An order on it is a
walk that comes back to its first stand behind n places. How many things wait
is the same at each place, and tells the turns: it is left and the turns.
"""

from nearplace.errors import NoKeep
from nearplace.numbered import check_listed
from nearplace.orders import MOST_THINGS, check_order, check_reach, moves_of
from nearplace.stands import check_number, steps_table
from nearplace.walks import Walks


def check_ring(many, reach):
    check_number(many, sum(reach) + 1, MOST_THINGS)


def near_moves(order, reach):
    """Each thing's move on the ring, the least that is no farther to the left than the reach lets it."""
    check_order(order)
    check_reach(reach)
    check_ring(len(order), reach)
    left = reach[0]
    return [(move + left) % len(order) - left for move in moves_of(order)]


def are_kept(moves, reach):
    return all(move <= reach[1] for move in moves)


def keeps_ring(order, reach):
    return are_kept(near_moves(order, reach), reach)


def ring_moves(order, reach):
    moves = near_moves(order, reach)
    if not are_kept(moves, reach):
        raise NoKeep("a thing stands farther from its own place on the ring than the reach lets it")
    return moves


def turns_of(order, reach):
    return sum(ring_moves(order, reach)) // len(order)


def turn_walks(many, reach, turns):
    """Walks of all orders with so many turns, parted by the stand at the first place."""
    # This is the stand at each place of the order in which every thing's ring move is this number.
    start = tuple(range(-turns, reach[0]))
    table = steps_table(reach, start)
    return [Walks(stand, table, [table] * many) for stand in table]


def walks_by_turns(many, reach):
    check_reach(reach)
    check_ring(many, reach)
    left, right = reach
    return {turns: turn_walks(many, reach, turns) for turns in range(-left, right + 1)}


def ring_counts(many, reach):
    parted = walks_by_turns(many, reach)
    return {turns: sum([walks.how_many() for walks in parted[turns]]) for turns in parted}


def ring_count(many, reach):
    return sum(ring_counts(many, reach).values())


def ring_orders(many, reach):
    every = [walks for parted in walks_by_turns(many, reach).values() for walks in parted]
    check_listed(sum([walks.how_many() for walks in every]))
    rows = [walks.things_of(number) for walks in every for number in range(walks.how_many())]
    return sorted([[thing % many for thing in things] for things in rows])
