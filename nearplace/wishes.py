"""Orders that keep a reach and meet wishes, counted by stands."""

from nearplace.errors import NoWishes
from nearplace.orders import check_reach, is_whole_between
from nearplace.stands import check_many, check_number, first_stand, steps_table
from nearplace.walks import Walks

AT = "at"
NOT = "not"
MOST_WISHES = 60


def is_wish(thing, most):
    if not isinstance(thing, tuple) or len(thing) != 3:
        return False
    if not isinstance(thing[0], str) or thing[0] not in (AT, NOT):
        return False
    return all(is_whole_between(number, 0, most) for number in thing[1:])


def is_wishes(thing, most):
    """Whether it is a list of at most sixty wishes with numbers from 0 to most."""
    if not isinstance(thing, list) or len(thing) > MOST_WISHES:
        return False
    return all(is_wish(wish, most) for wish in thing)


def check_wishes(wishes, most):
    if not is_wishes(wishes, most):
        raise NoWishes("wishes are a list of at most sixty tuples of a word, a thing and a place")


def is_met(wish, thing, place):
    """Whether the thing may stand at the place: a wish speaks of one thing alone."""
    word, wished_thing, wished_place = wish
    return thing != wished_thing or (place == wished_place) == (word == AT)


def wished_table(reach, table, wishes, place):
    """The steps of the table that may be taken at the place."""
    left, right = reach
    puts = [put for put in range(-right, left + 1) if all(is_met(wish, place + put, place) for wish in wishes)]
    return {stand: [step for step in table[stand] if step[0] in puts] for stand in table}


def wished_walks(many, reach, wishes):
    check_reach(reach)
    check_many(many)
    check_wishes(wishes, many - 1)
    first = first_stand(reach)
    table = steps_table(reach, first)
    return Walks(first, table, [wished_table(reach, table, wishes, place) for place in range(many)])


def count_wished(many, reach, wishes):
    return wished_walks(many, reach, wishes).how_many()


def first_wished(many, reach, wishes):
    walks = wished_walks(many, reach, wishes)
    return walks.things_of(0) if walks.how_many() else None


def nth_wished(many, reach, wishes, number):
    walks = wished_walks(many, reach, wishes)
    check_number(number, 0, walks.how_many() - 1)
    return walks.things_of(number)


def places_wished(many, reach, wishes):
    counts = wished_walks(many, reach, wishes).counts_at()
    return [[place for place, count in enumerate(row) if count] for row in counts]
