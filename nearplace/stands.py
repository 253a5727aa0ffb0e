"""Stands of a reach, the steps between them, and how many orders they count.

Functions that do not check what they are handed are for the modules of this
package: their callers have checked it.
"""

from nearplace.errors import NoNumber, NoStand
from nearplace.orders import MOST_THINGS, check_reach, is_whole, is_whole_between

MOST_STEPS = 40


def first_stand(reach):
    return tuple(range(reach[0]))


def stand_behind(reach, stand, put):
    left = reach[0]
    return tuple(item - 1 for item in stand + (left,) if item != put)


def steps_from(reach, stand):
    left, right = reach
    # At the next place the thing at -right would be too far, so no other may be put.
    puts = (-right,) if -right in stand else stand + (left,)
    return [(put, stand_behind(reach, stand, put)) for put in puts]


def stands_reached(reach):
    seen = set()
    waiting = [first_stand(reach)]
    while waiting:
        stand = waiting.pop()
        if stand not in seen:
            seen.add(stand)
            waiting.extend([behind for put, behind in steps_from(reach, stand)])
    return sorted(seen)


def row_ahead(reach, row):
    """The row of ways with one step more."""
    return {stand: sum([row[behind] for put, behind in steps_from(reach, stand)]) for stand in row}


def ways_rows(reach, end, steps):
    """Rows 0 to steps: row k has for each stand in how many ways k steps lead from it to the end."""
    row = {stand: 0 for stand in stands_reached(reach)}
    row[end] = 1
    rows = [row]
    while len(rows) <= steps:
        rows.append(row_ahead(reach, rows[-1]))
    return rows


def is_stand(reach, thing):
    # True and False are equal to 1 and 0, so being equal to a stand is not enough.
    if not isinstance(thing, tuple) or not all(is_whole(item) for item in thing):
        return False
    return thing in stands_reached(reach)


def check_stand(reach, stand):
    if not is_stand(reach, stand):
        raise NoStand("steps from the first stand of this reach do not lead to it")


def check_number(number, least, most):
    if not is_whole_between(number, least, most):
        raise NoNumber("not a whole number that may stand here")


def check_many(many):
    check_number(many, 0, MOST_THINGS)


def all_stands(reach):
    check_reach(reach)
    return stands_reached(reach)


def steps_of(reach, stand):
    check_reach(reach)
    check_stand(reach, stand)
    return steps_from(reach, stand)


def ways_between(reach, one, other, steps):
    check_reach(reach)
    check_stand(reach, one)
    check_stand(reach, other)
    check_number(steps, 0, MOST_STEPS)
    return ways_rows(reach, other, steps)[steps][one]


def count_orders(many, reach):
    check_reach(reach)
    check_many(many)
    first = first_stand(reach)
    return ways_rows(reach, first, many)[many][first]
