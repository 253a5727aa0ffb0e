"""Orders drawn evenly by rolls, and how many lists of rolls draw them."""

from nearplace.errors import NoRolls, NoShare
from nearplace.orders import check_reach, is_whole_between
from nearplace.stands import check_many, check_number, count_orders
from nearplace.walks import row_walks

LEAST_SIDES = 2
MOST_SIDES = 1000
MOST_LENGTH = 60
MOST_ENOUGH = 300
# Twelve figures.
MOST_IN_SHARE = 999999999999


def check_draw(many, reach, sides):
    check_reach(reach)
    check_many(many)
    check_number(sides, LEAST_SIDES, MOST_SIDES)


def is_rolls(sides, thing):
    return isinstance(thing, list) and all(is_whole_between(roll, 0, sides - 1) for roll in thing)


def check_rolls(sides, rolls):
    if not is_rolls(sides, rolls):
        raise NoRolls("rolls are a list of whole numbers from 0 below sides")


def is_share(thing):
    if not isinstance(thing, tuple) or len(thing) != 2:
        return False
    return is_whole_between(thing[0], 0, MOST_IN_SHARE) and is_whole_between(thing[1], 1, MOST_IN_SHARE)


def check_share(share):
    if not is_share(share):
        raise NoShare("a share is a tuple of two whole numbers of at most twelve figures, the latter not 0")


def fitting(width, count):
    """The marks of a width that are parted evenly: as often the count as it goes into the width."""
    return width // count * count


def drawn(many, reach, sides, rolls):
    check_draw(many, reach, sides)
    check_rolls(sides, rolls)
    walks = row_walks(many, reach)
    count = walks.how_many()
    width, mark, used = 1, 0, 0
    while mark >= fitting(width, count):
        mark -= fitting(width, count)
        width -= fitting(width, count)
        if used == len(rolls):
            return ("open", width, mark)
        mark = mark * sides + rolls[used]
        width *= sides
        used += 1
    return ("order", walks.things_of(mark % count), used)


def drawn_counts(many, reach, sides, length):
    check_draw(many, reach, sides)
    check_number(length, 0, MOST_LENGTH)
    count = count_orders(many, reach)
    # The width that goes on does not hang on the mark, so it counts the lists that draw none yet.
    each, width = divmod(1, count)
    for taken in range(length):
        more, width = divmod(width * sides, count)
        each = each * sides + more
    return (each, width)


def rolls_enough(many, reach, sides, share):
    check_draw(many, reach, sides)
    check_share(share)
    above, below = share
    count = count_orders(many, reach)
    width, lists = 1 % count, 1
    for length in range(MOST_ENOUGH + 1):
        if width * below <= above * lists:
            return length
        width = width * sides % count
        lists *= sides
    return None
