"""Orders that keep a reach, by their numbers."""

from nearplace.errors import NoKeep, TooMany
from nearplace.orders import check_reach, keeps
from nearplace.stands import check_many, check_number
from nearplace.walks import row_walks

MOST_LISTED = 300


def check_keeps(order, reach):
    if not keeps(order, reach):
        raise NoKeep("a thing stands farther from its own place than the reach lets it")


def check_listed(count):
    if count > MOST_LISTED:
        raise TooMany("there are more than three hundred orders")


def nth_order(many, reach, number):
    check_reach(reach)
    check_many(many)
    walks = row_walks(many, reach)
    check_number(number, 0, walks.how_many() - 1)
    return walks.things_of(number)


def number_of(order, reach):
    check_keeps(order, reach)
    return row_walks(len(order), reach).number_among(order)


def next_order(order, reach):
    check_keeps(order, reach)
    walks = row_walks(len(order), reach)
    number = walks.number_among(order) + 1
    if number == walks.how_many():
        return None
    return walks.things_of(number)


def all_orders(many, reach):
    check_reach(reach)
    check_many(many)
    walks = row_walks(many, reach)
    check_listed(walks.how_many())
    return [walks.things_of(number) for number in range(walks.how_many())]
