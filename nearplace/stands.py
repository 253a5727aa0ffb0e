"""Stands of a reach, the steps between them, and how many orders they count.

Functions that do not check what they are handed are for the modules of this
package: their callers have checked it.
"""

from nearplace.errors import NoNumber, NoStand
from nearplace.orders import MOST_THINGS, check_reach, is_whole, is_whole_between

MOST_STEPS = 40


def first_stand(reach):
    return tuple(range(reach[0]))


def stand_behind(reach, stand, put):
    left = reach[0]
    return tuple(item - 1 for item in stand + (left,) if item != put)


def steps_from(reach, stand):
    left, right = reach
    # At the next place the thing at -right would be too far, so no other may be put.
    puts = (-right,) if -right in stand else stand + (left,)
    return [(put, stand_behind(reach, stand, put)) for put in puts]


def stands_reached(reach, start):
    seen = set()
    waiting = [start]
    while waiting:
        stand = waiting.pop()
        if stand not in seen:
            seen.add(stand)
            waiting.extend([behind for put, behind in steps_from(reach, stand)])
    return sorted(seen)


def steps_table(reach, start):
    """The steps of each stand to which steps lead from the start."""
    return {stand: steps_from(reach, stand) for stand in stands_reached(reach, start)}


def end_row(table, end):
    """In how many ways no steps lead from each stand to the end."""
    return {stand: 1 if stand == end else 0 for stand in table}


def row_ahead(table, row):
    """The row of ways with one step more, taken by the table."""
    return {stand: sum([row[behind] for put, behind in table[stand]]) for stand in table}


def ways_rows(tables, row):
    """A row ahead of each table and the row handed in behind the last: each tells the ways that are left there."""
    rows = [row]
    for table in reversed(tables):
        rows.append(row_ahead(table, rows[-1]))
    rows.reverse()
    return rows


def is_stand(reach, thing):
    # True and False are equal to 1 and 0, so being equal to a stand is not enough.
    if not isinstance(thing, tuple) or not all(is_whole(item) for item in thing):
        return False
    return thing in stands_reached(reach, first_stand(reach))


def check_stand(reach, stand):
    if not is_stand(reach, stand):
        raise NoStand("steps from the first stand of this reach do not lead to it")


def check_number(number, least, most):
    if not is_whole_between(number, least, most):
        raise NoNumber("not a whole number that may stand here")


def check_many(many):
    check_number(many, 0, MOST_THINGS)


def all_stands(reach):
    check_reach(reach)
    return stands_reached(reach, first_stand(reach))


def steps_of(reach, stand):
    check_reach(reach)
    check_stand(reach, stand)
    return steps_from(reach, stand)


def ways_between(reach, one, other, steps):
    check_reach(reach)
    check_stand(reach, one)
    check_stand(reach, other)
    check_number(steps, 0, MOST_STEPS)
    table = steps_table(reach, first_stand(reach))
    return ways_rows([table] * steps, end_row(table, other))[0][one]


def count_orders(many, reach):
    check_reach(reach)
    check_many(many)
    first = first_stand(reach)
    table = steps_table(reach, first)
    return ways_rows([table] * many, end_row(table, first))[0][first]
