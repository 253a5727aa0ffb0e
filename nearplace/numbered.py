"""Orders that keep a reach, by their numbers.

Steps rise by what they put, so going by steps goes through the orders in
order as lists are.
"""

from nearplace.errors import NoKeep, TooMany
from nearplace.orders import check_reach, keeps
from nearplace.stands import check_many, check_number, first_stand, stand_behind, steps_from, ways_rows

MOST_LISTED = 300


def order_rows(many, reach):
    """Rows 0 to many: row k has for each stand in how many ways an order goes on from it by its last k things."""
    return ways_rows(reach, first_stand(reach), many)


def orders_in(reach, rows):
    return rows[-1][first_stand(reach)]


def check_keeps(order, reach):
    if not keeps(order, reach):
        raise NoKeep("a thing stands farther from its own place than the reach lets it")


def step_with(steps, row, number):
    """The step that leads to the number, and the number among the orders behind that step."""
    at = 0
    while number >= row[steps[at][1]]:
        number -= row[steps[at][1]]
        at += 1
    return steps[at], number


def order_with(reach, rows, number):
    order = []
    stand = first_stand(reach)
    for row in reversed(rows[:-1]):
        step, number = step_with(steps_from(reach, stand), row, number)
        put, stand = step
        order.append(len(order) + put)
    return order


def orders_ahead(reach, stand, row, put):
    """How many orders go on from the stand by putting a lesser thing."""
    return sum([row[behind] for lesser, behind in steps_from(reach, stand) if lesser < put])


def number_in(reach, rows, order):
    number = 0
    stand = first_stand(reach)
    for place, thing in enumerate(order):
        row = rows[len(order) - 1 - place]
        number += orders_ahead(reach, stand, row, thing - place)
        stand = stand_behind(reach, stand, thing - place)
    return number


def nth_order(many, reach, number):
    check_reach(reach)
    check_many(many)
    rows = order_rows(many, reach)
    check_number(number, 0, orders_in(reach, rows) - 1)
    return order_with(reach, rows, number)


def number_of(order, reach):
    check_keeps(order, reach)
    return number_in(reach, order_rows(len(order), reach), order)


def next_order(order, reach):
    check_keeps(order, reach)
    rows = order_rows(len(order), reach)
    number = number_in(reach, rows, order) + 1
    if number == orders_in(reach, rows):
        return None
    return order_with(reach, rows, number)


def all_orders(many, reach):
    check_reach(reach)
    check_many(many)
    rows = order_rows(many, reach)
    if orders_in(reach, rows) > MOST_LISTED:
        raise TooMany("there are more than three hundred orders")
    return [order_with(reach, rows, number) for number in range(orders_in(reach, rows))]
