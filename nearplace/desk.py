"""A desk: it is told lines and answers each by a text.

A function that answers a line is handed the desk and what stands behind the
line's head. It reads all of that ahead of changing anything the desk has.
"""

from nearplace.drawn import drawn
from nearplace.errors import NoAsk
from nearplace.far import far_count, rule_of
from nearplace.numbered import next_order, number_of
from nearplace.orders import how_near
from nearplace.rings import ring_count
from nearplace.spread import by_moved, by_pairs
from nearplace.stands import check_many, check_number
from nearplace.texts import is_figures, numbers_text, order_text, read_order, read_reach, sides_text
from nearplace.wishes import AT, NOT, count_wished, first_wished, nth_wished, places_wished

MOST_FIGURES = 9
NONE_THERE = "none there"


def check_ask(is_one):
    if not is_one:
        raise NoAsk("this is no line that a desk answers")


def read_figures(words):
    """The numbers that the words of a line write."""
    check_ask(all(is_figures(word, MOST_FIGURES) for word in words))
    return [int(word) for word in words]


def answer_count(desk):
    return str(count_wished(desk.many, desk.reach, desk.wishes))


def answer_free(desk):
    desk.wishes = []
    return answer_count(desk)


def answer_first(desk):
    order = first_wished(desk.many, desk.reach, desk.wishes)
    return NONE_THERE if order is None else order_text(order)


def answer_ring(desk):
    return str(ring_count(desk.many, desk.reach))


def answer_moved(desk):
    return numbers_text(by_moved(desk.many, desk.reach))


def answer_pairs(desk):
    return numbers_text(by_pairs(desk.many, desk.reach))


def answer_rule(desk):
    return numbers_text(rule_of(desk.reach))


def answer_nth(desk, number):
    return order_text(nth_wished(desk.many, desk.reach, desk.wishes, number))


def answer_places(desk, thing):
    check_number(thing, 0, desk.many - 1)
    places = places_wished(desk.many, desk.reach, desk.wishes)[thing]
    return numbers_text(places) if places else NONE_THERE


def answer_long(desk, many):
    return str(far_count(many, desk.reach))


def answer_number(desk, order):
    return str(number_of(order, desk.reach))


def answer_next(desk, order):
    behind = next_order(order, desk.reach)
    return "last" if behind is None else order_text(behind)


def answer_near(desk, order):
    return sides_text(how_near(order))


def answer_row(desk, words):
    check_ask(len(words) == 2)
    many = read_figures(words[:1])[0]
    reach = read_reach(words[1])
    check_many(many)
    desk.many = many
    desk.reach = reach
    desk.wishes = []
    return "ok"


def answer_wish(desk, words):
    check_ask(len(words) == 3 and words[0] in (AT, NOT))
    wishes = desk.wishes + [(words[0],) + tuple(read_figures(words[1:]))]
    count = count_wished(desk.many, desk.reach, wishes)
    desk.wishes = wishes
    return str(count)


def answer_draw(desk, words):
    sides, *rolls = read_figures(words)
    told = drawn(desk.many, desk.reach, sides, rolls)
    if told[0] == "order":
        return f"{order_text(told[1])}: {told[2]}"
    return f"open {told[1]} {told[2]}"


# By what stands behind the head: nothing, one number, an ORDER, or words of several kinds.
ALONE = {
    "free": answer_free,
    "count": answer_count,
    "first": answer_first,
    "ring": answer_ring,
    "moved": answer_moved,
    "pairs": answer_pairs,
    "rule": answer_rule,
}
WITH_NUMBER = {"nth": answer_nth, "places": answer_places, "long": answer_long}
WITH_ORDER = {"number": answer_number, "next": answer_next, "near": answer_near}
WITH_WORDS = {"row": answer_row, "wish": answer_wish, "draw": answer_draw}


def answer_with_number(desk, head, words):
    check_ask(len(words) == 1)
    number = read_figures(words)[0]
    action = WITH_NUMBER[head]
    return action(desk, number)


def answer_with_order(desk, head, text):
    order = read_order(text)
    check_number(len(order), desk.many, desk.many)
    action = WITH_ORDER[head]
    return action(desk, order)


class Desk:
    """Keeps how many things there are, a reach, and wishes."""

    def __init__(self):
        self.many = 0
        self.reach = (0, 0)
        self.wishes = []

    def answer(self, line):
        check_ask(isinstance(line, str) and "\n" not in line)
        head, blank, rest = line.partition(" ")
        if not blank:
            check_ask(head in ALONE)
            action = ALONE[head]
            return action(self)
        if head in WITH_ORDER:
            return answer_with_order(self, head, rest)
        if head in WITH_NUMBER:
            return answer_with_number(self, head, rest.split(" "))
        check_ask(head in WITH_WORDS)
        answer_words = WITH_WORDS[head]
        return answer_words(self, rest.split(" "))
