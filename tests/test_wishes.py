"""nearplace/wishes.py: points 2, 3 and 11."""

import itertools
import unittest

from nearplace.errors import NoNumber, NoReach, NoWishes
from nearplace.stands import count_orders
from nearplace.wishes import count_wished, first_wished, nth_wished, places_wished
from tests.support import (
    ANYTHING, NO_NUMBERS, NO_REACHES, NO_WHOLES, REACHES, Case, EqualToAll, EqualToNone, count_by_things, is_kept,
    kept_orders,
)

BY_WISHES = [count_wished, first_wished, places_wished]
# With three things.
NO_WISH = [
    None, True, 0, "", "at", "at 0 1", b"at", (), [], {}, ("at",), ("at", 0), ("at", 0, 1, 2), ["at", 0, 1],
    ("At", 0, 1), ("", 0, 1), ("no", 0, 1), (b"at", 0, 1), (None, 0, 1), (True, 0, 1), (0, 0, 1), (["at"], 0, 1),
    (("at",), 0, 1), (EqualToAll(), 0, 1), (EqualToNone(), 0, 1), ({}, 0, 1), ("at ", 0, 1), (" not", 0, 1),
    ("at", -1, 0), ("at", 0, -1), ("at", 3, 0), ("at", 0, 3), ("not", 3, 0), ("not", 0, 3), ("not", 10 ** 39, 0),
    ("at", True, 0), ("at", 0, True), ("not", False, 0), ("not", 0, False), ("at", "0", 0), ("at", 0, None),
    ("at", [0], 0), {"at": (0, 1)}, ("not\n", 0, 1), ("at", 0, (1,)), ("at", EqualToAll(), 0),
    ("at", 0, EqualToNone()), (0, 1, "at"), (0, "at", 1), (("at", 0, 1),),
]
NO_WISHES = ANYTHING + [[wish] for wish in NO_WISH] + [
    0, (), (("at", 0, 0),), ("at", 0, 0), {("at", 0, 0)}, {("at", 0, 0): True}, "at 0 0", [[("at", 0, 0)]],
    [("at", 0, 0), ("at", 3, 1)], [("at", 3, 1), ("at", 0, 0)], [("not", 0, 0)] * 60 + [None], [("at", 0, 0)] * 61,
    [("not", 0, 1)] * 61, [("at", 0, 0)] * 59 + [("at", 0, False)], [("at", 0, 0)] * 100,
]


def meets(order, wishes):
    return all((order[place] == thing) == (word == "at") for word, thing, place in wishes)


def lets(wishes, thing, place):
    """Whether no wish speaks against the thing at the place."""
    for word, wished_thing, wished_place in wishes:
        alike = [thing == wished_thing, place == wished_place].count(True)
        if alike == (1 if word == "at" else 2):
            return False
    return True


def all_wishes(many):
    return [(word, thing, place) for word in ("at", "not") for thing in range(many) for place in range(many)]


def some_wishes(many):
    """Lists of wishes of many lengths, without a plain pattern: few with at, so that orders are left."""
    every = all_wishes(many)
    told = []
    for start in range(24):
        bars = [every[len(every) // 2 + (start * 7 + step * step * 5) % (len(every) // 2)] for step in range(start % 9)]
        holds = [every[(start * 11 + step * 13) % (len(every) // 2)] for step in range(start % 3)]
        told.append(bars + holds + bars[:start % 2])
    return told


def places_in(orders, many):
    return [sorted({order.index(thing) for order in orders}) for thing in range(many)]


class SmallRows(Case):
    def tells_what_going_through_tells(self, many, reach, wishes, kept):
        orders = [order for order in kept if meets(order, wishes)]
        self.same(len(orders), count_wished(many, reach, wishes))
        self.same(orders[0] if orders else None, first_wished(many, reach, wishes))
        self.same(orders, [nth_wished(many, reach, wishes, number) for number in range(len(orders))])
        self.refuses(NoNumber, nth_wished, many, reach, wishes, len(orders))
        self.refuses(NoNumber, nth_wished, many, reach, wishes, -1)
        self.same(places_in(orders, many), places_wished(many, reach, wishes))

    def test_no_wishes(self):
        for reach in REACHES:
            for many in range(6):
                self.tells_what_going_through_tells(many, reach, [], kept_orders(many, reach))

    def test_each_single_wish(self):
        for reach in REACHES:
            for many in (1, 2, 4):
                for wish in all_wishes(many):
                    self.tells_what_going_through_tells(many, reach, [wish], kept_orders(many, reach))

    def test_each_two_wishes(self):
        for reach in ((0, 0), (1, 1), (2, 1), (0, 3), (3, 3)):
            for pair in itertools.product(all_wishes(3), repeat=2):
                self.tells_what_going_through_tells(3, reach, list(pair), kept_orders(3, reach))

    def test_more_wishes(self):
        for reach in REACHES:
            for many in (5, 6):
                kept = kept_orders(many, reach)
                for wishes in some_wishes(many):
                    self.tells_what_going_through_tells(many, reach, wishes, kept)

    def test_sixty_wishes(self):
        unmet = [("at", 1, 0), ("not", 1, 0)] * 30
        for wishes in ([("not", 0, 1)] * 60, [("at", 1, 0)] * 60, unmet, all_wishes(5)[-20:] * 3):
            for reach in ((1, 1), (3, 3)):
                self.tells_what_going_through_tells(5, reach, wishes, kept_orders(5, reach))

    def test_some_by_hand(self):
        self.same(1, count_wished(0, (3, 3), []))
        self.same([], first_wished(0, (3, 3), []))
        self.same([], nth_wished(0, (3, 3), [], 0))
        self.same([], places_wished(0, (3, 3), []))
        self.same([[0]], places_wished(1, (3, 3), []))
        self.same([[]], places_wished(1, (3, 3), [("not", 0, 0)]))
        self.same(0, count_wished(1, (3, 3), [("not", 0, 0)]))
        self.assertIsNone(first_wished(1, (3, 3), [("not", 0, 0)]))
        self.same([0, 2, 1], first_wished(3, (1, 1), [("not", 1, 1)]))
        self.same([1, 0, 2], nth_wished(3, (1, 1), [("not", 1, 1)], 1))
        self.same([[0, 1], [0, 2], [1, 2]], places_wished(3, (1, 1), [("not", 1, 1)]))
        self.same([[1], [0], [2]], places_wished(3, (1, 1), [("at", 0, 1)]))
        self.same([[], [], []], places_wished(3, (1, 1), [("at", 0, 2)]))
        self.same([[], [], []], places_wished(3, (1, 1), [("at", 0, 0), ("at", 0, 1)]))
        self.same([[], [], []], places_wished(3, (1, 1), [("at", 0, 0), ("at", 1, 0)]))


class LongRows(Case):
    def wishes(self, many):
        return [
            [("not", thing, thing) for thing in range(many)],
            [("not", thing, thing) for thing in range(0, many, 2)] + [("at", 5, 6)],
            [("at", thing, thing) for thing in range(3, many, 9)] + [("not", 1, 0), ("not", 2, 1), ("not", 5, 4)],
            [("not", thing, min(many - 1, thing + 2)) for thing in range(0, many, 4)] * 2 + [("at", 11, 10)],
        ]

    def test_counts_without_stands(self):
        for reach in REACHES:
            for many in (13, 40):
                for wishes in self.wishes(many):
                    due = count_by_things(many, reach, lambda thing, place: lets(wishes, thing, place))
                    self.same(due, count_wished(many, reach, wishes))

    def test_no_wishes_count_all(self):
        for reach in REACHES:
            self.same(count_orders(40, reach), count_wished(40, reach, []))

    def test_numbers_among_them(self):
        for reach in REACHES:
            for wishes in self.wishes(40):
                count = count_wished(40, reach, wishes)
                numbers = sorted({count * part // 11 for part in range(11)} | {count - 1}) if count else []
                orders = [nth_wished(40, reach, wishes, number) for number in numbers]
                for order in orders:
                    self.same(list(range(40)), sorted(order))
                    self.assertTrue(is_kept(order, reach) and meets(order, wishes))
                self.same(sorted(orders), orders)
                self.same(orders[0] if orders else None, first_wished(40, reach, wishes))
                self.refuses(NoNumber, nth_wished, 40, reach, wishes, count)
                self.refuses(NoNumber, nth_wished, 40, reach, wishes, -1)

    def test_places_are_those_that_may_be_held(self):
        for reach in ((1, 1), (2, 1), (3, 3)):
            for wishes in self.wishes(40):
                told = places_wished(40, reach, wishes)
                self.assertEqual(40, len(told))
                for thing in range(40):
                    near = range(max(0, thing - reach[0] - 1), min(40, thing + reach[1] + 2))
                    due = [place for place in near if count_wished(40, reach, wishes + [("at", thing, place)])]
                    self.same(due, told[thing])

    def test_all_held(self):
        wishes = [("at", place ^ 1, place) for place in range(40)]
        self.same(1, count_wished(40, (1, 1), wishes))
        self.same([place ^ 1 for place in range(40)], nth_wished(40, (1, 1), wishes, 0))
        self.same(0, count_wished(40, (1, 0), wishes))


class Refusals(Case):
    def test_no_reach_first(self):
        for thing in NO_REACHES:
            for function in BY_WISHES:
                self.refuses(NoReach, function, 3, thing, [])
                self.refuses(NoReach, function, 41, thing, None)
            self.refuses(NoReach, nth_wished, 3, thing, [], 0)
            self.refuses(NoReach, nth_wished, 41, thing, None, None)

    def test_no_number_of_things_ahead_of_no_wishes(self):
        for thing in NO_NUMBERS:
            for wishes in ([], None, [("at", 40, 40)], [None]):
                for function in BY_WISHES:
                    self.refuses(NoNumber, function, thing, (1, 1), wishes)
                self.refuses(NoNumber, nth_wished, thing, (1, 1), wishes, 0)

    def test_no_wishes_ahead_of_another_no_number(self):
        for thing in NO_WISHES:
            for reach in ((0, 0), (1, 1), (3, 3)):
                for function in BY_WISHES:
                    self.refuses(NoWishes, function, 3, reach, thing)
                self.refuses(NoWishes, nth_wished, 3, reach, thing, 0)
                self.refuses(NoWishes, nth_wished, 3, reach, thing, -1)
                self.refuses(NoWishes, nth_wished, 3, reach, thing, None)

    def test_things_and_places_that_there_are_not(self):
        for many in range(41):
            for word in ("at", "not"):
                if many:
                    count_wished(many, (1, 1), [(word, many - 1, 0), (word, 0, many - 1)])
                for function in BY_WISHES:
                    self.refuses(NoWishes, function, many, (1, 1), [(word, many, 0)])
                    self.refuses(NoWishes, function, many, (1, 1), [(word, 0, many)])

    def test_no_number_among_them(self):
        for thing in NO_WHOLES + [-1, 3, 10 ** 40 - 1, -(10 ** 39)]:
            self.refuses(NoNumber, nth_wished, 3, (1, 1), [], thing)
            self.refuses(NoNumber, nth_wished, 3, (1, 1), [("not", 0, 2)], thing)
        self.refuses(NoNumber, nth_wished, 3, (1, 1), [("at", 0, 2)], 0)
        self.refuses(NoNumber, nth_wished, 3, (1, 1), [("at", 0, 2)], -1)


class ListsOfTheAsker(Case):
    def test_nothing_handed_in_is_changed_and_nothing_told_is_kept(self):
        for reach in REACHES:
            for wishes in ([], [("not", 1, 1), ("not", 2, 2)], [("at", 0, 0), ("at", 3, 3)], [("at", 0, 4)]):
                for function in BY_WISHES:
                    self.stays(function, 5, reach, wishes)
                if count_wished(5, reach, wishes):
                    self.stays(nth_wished, 5, reach, wishes, 0)

    def test_no_two_told_are_one(self):
        for wishes in ([], [("at", 0, 4)]):
            self.no_two_are_one(places_wished(5, (1, 1), wishes) + places_wished(5, (1, 1), wishes))
        self.no_two_are_one([first_wished(4, (1, 1), []), first_wished(4, (1, 1), []), nth_wished(4, (1, 1), [], 0)])

    def test_changing_the_wishes_later_changes_nothing_told(self):
        wishes = [("not", 1, 1)]
        first, places = first_wished(3, (1, 1), wishes), places_wished(3, (1, 1), wishes)
        wishes[0] = ("at", 1, 1)
        self.same([0, 2, 1], first)
        self.same([[0, 1], [0, 2], [1, 2]], places)


if __name__ == "__main__":
    unittest.main()
