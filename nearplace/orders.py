"""Orders of things in a row, and reaches that they keep or do not keep."""

from nearplace.errors import NoOrder, NoReach

MOST_THINGS = 40
MOST_REACH = 3


def is_whole(thing):
    # Python counts True and False among the ints, the document does not.
    return isinstance(thing, int) and not isinstance(thing, bool)


def is_whole_between(thing, least, most):
    return is_whole(thing) and least <= thing <= most


def is_order(thing):
    if not isinstance(thing, list) or len(thing) > MOST_THINGS:
        return False
    # Sorting comes behind this: other kinds of values may not let themselves be sorted.
    if not all(is_whole(item) for item in thing):
        return False
    return sorted(thing) == list(range(len(thing)))


def is_reach(thing):
    if not isinstance(thing, tuple) or len(thing) != 2:
        return False
    return all(is_whole_between(item, 0, MOST_REACH) for item in thing)


def check_order(order):
    if not is_order(order):
        raise NoOrder("an order is a list of the whole numbers from 0 on, each once, at most forty")


def check_reach(reach):
    if not is_reach(reach):
        raise NoReach("a reach is a tuple of two whole numbers from 0 to 3")


def moves_of(order):
    return [place - thing for thing, place in enumerate(back_of(order))]


def keeps(order, reach):
    check_order(order)
    check_reach(reach)
    left, right = reach
    return all(-left <= move <= right for move in moves_of(order))


def how_near(order):
    # The 0 is for the order of no things, which has no moves.
    moves = [0] + moves_of(order)
    return (-min(moves), max(moves))


def back_of(order):
    check_order(order)
    back = [0] * len(order)
    for place, thing in enumerate(order):
        back[thing] = place
    return back


def mirrored(order):
    check_order(order)
    last = len(order) - 1
    return [last - thing for thing in reversed(order)]
