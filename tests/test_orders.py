"""nearplace/orders.py: points 2, 4 and 5."""

import itertools
import unittest

from nearplace.errors import NoOrder, NoReach
from nearplace.orders import back_of, how_near, is_order, is_reach, keeps, mirrored, moves_of
from tests.support import NO_ORDERS, NO_REACHES, REACHES, Case, is_kept

OF_ONE_ORDER = [moves_of, how_near, back_of, mirrored]
FORTY = list(range(40))
FORTY_TURNED = list(range(39, -1, -1))


def small_orders():
    return [list(order) for many in range(6) for order in itertools.permutations(range(many))]


class WhatIsAnOrder(Case):
    def test_all_small_orders_are(self):
        for order in small_orders():
            self.same(True, is_order(order))

    def test_of_forty_things(self):
        self.same(True, is_order(FORTY))
        self.same(True, is_order(FORTY_TURNED))
        self.same(True, is_order(FORTY[7:] + FORTY[:7]))

    def test_of_forty_one_things_none_is(self):
        self.same(False, is_order(list(range(41))))
        self.same(False, is_order(list(range(40, -1, -1))))

    def test_lists_of_few_numbers(self):
        for many in range(4):
            for numbers in itertools.product(range(-1, 5), repeat=many):
                due = set(numbers) == set(range(many))
                self.same(due, is_order(list(numbers)))
                self.same(False, is_order(tuple(numbers)))

    def test_anything_else_is_none(self):
        for thing in NO_ORDERS:
            self.same(False, is_order(thing))


class WhatIsAReach(Case):
    def test_all_sixteen_are(self):
        for reach in REACHES:
            self.same(True, is_reach(reach))
            self.same(False, is_reach(list(reach)))

    def test_below_and_beyond(self):
        for left in range(-2, 7):
            for right in range(-2, 7):
                self.same((left, right) in REACHES, is_reach((left, right)))

    def test_anything_else_is_none(self):
        for thing in NO_REACHES:
            self.same(False, is_reach(thing))


class ToldOfAnOrder(Case):
    def test_moves_thing_by_thing(self):
        self.same([], moves_of([]))
        self.same([0], moves_of([0]))
        self.same([1, -1], moves_of([1, 0]))
        self.same([1, 1, -2], moves_of([2, 0, 1]))
        self.same([2, -1, -1, 0], moves_of([1, 2, 0, 3]))

    def test_how_near(self):
        self.same((0, 0), how_near([]))
        self.same((0, 0), how_near([0]))
        self.same((2, 1), how_near([2, 0, 1]))
        self.same((1, 2), how_near([1, 2, 0, 3]))
        self.same((0, 0), how_near(FORTY))

    def test_how_near_may_be_above_three(self):
        self.same((4, 1), how_near([4, 0, 1, 2, 3]))
        self.same((39, 39), how_near(FORTY_TURNED))
        self.same((39, 1), how_near([39] + list(range(39))))

    def test_back(self):
        self.same([], back_of([]))
        self.same([1, 2, 0], back_of([2, 0, 1]))
        self.same([2, 0, 1, 3], back_of([1, 2, 0, 3]))

    def test_mirrored(self):
        self.same([], mirrored([]))
        self.same([0], mirrored([0]))
        self.same([1, 2, 0], mirrored([2, 0, 1]))
        self.same([0, 3, 1, 2], mirrored([1, 2, 0, 3]))
        self.same([0, 2, 1], mirrored([1, 0, 2]))

    def test_all_small_orders_by_the_words(self):
        for order in small_orders() + [FORTY, FORTY_TURNED, FORTY[7:] + FORTY[:7]]:
            many = len(order)
            moves = [order.index(thing) - thing for thing in range(many)]
            self.same(moves, moves_of(order))
            self.same((max([-move for move in moves] + [0]), max(moves + [0])), how_near(order))
            self.same([order.index(thing) for thing in range(many)], back_of(order))
            self.same([many - 1 - order[many - 1 - place] for place in range(many)], mirrored(order))

    def test_no_order_is_refused(self):
        for function in OF_ONE_ORDER:
            for thing in NO_ORDERS:
                self.refuses(NoOrder, function, thing)

    def test_nothing_handed_in_is_changed_and_nothing_told_is_kept(self):
        for function in OF_ONE_ORDER:
            for order in ([], [0], [2, 0, 1], list(FORTY_TURNED)):
                self.stays(function, order)

    def test_what_is_told_is_not_what_was_handed_in(self):
        # Each of these is equal to its back and to its mirrored one.
        for order in ([], [0], [1, 0], list(FORTY), list(FORTY_TURNED)):
            self.assertIsNot(order, back_of(order))
            self.assertIsNot(order, mirrored(order))
            self.same(order, back_of(order))
            self.same(order, mirrored(order))

    def test_changing_the_order_later_changes_nothing_told(self):
        order = [2, 0, 1]
        told = [function(order) for function in OF_ONE_ORDER]
        order.clear()
        self.same([[1, 1, -2], (2, 1), [1, 2, 0], [1, 2, 0]], told)


class Keeping(Case):
    def test_small_orders_and_all_reaches(self):
        for order in small_orders():
            for reach in REACHES:
                self.same(is_kept(order, reach), keeps(order, reach))

    def test_left_and_right_are_not_swapped(self):
        self.same(True, keeps([2, 0, 1], (2, 1)))
        self.same(False, keeps([2, 0, 1], (1, 2)))

    def test_no_things_keep_all(self):
        for reach in REACHES:
            self.same(True, keeps([], reach))
            self.same(True, keeps([0], reach))
            self.same(True, keeps(list(FORTY), reach))

    def test_forty_things(self):
        turned = [thing for start in range(0, 40, 4) for thing in range(start + 3, start - 1, -1)]
        self.same(True, keeps(turned, (3, 3)))
        self.same(False, keeps(turned, (3, 2)))
        self.same(False, keeps(turned, (2, 3)))
        self.same(False, keeps(FORTY_TURNED, (3, 3)))

    def test_the_back_and_the_mirrored_one_keep_the_reach_turned(self):
        for order in small_orders():
            for left, right in REACHES:
                kept = keeps(order, (left, right))
                self.same(kept, keeps(back_of(order), (right, left)))
                self.same(kept, keeps(mirrored(order), (right, left)))

    def test_no_order_is_refused_ahead_of_no_reach(self):
        for thing in NO_ORDERS:
            self.refuses(NoOrder, keeps, thing, (1, 1))
            self.refuses(NoOrder, keeps, thing, None)
            self.refuses(NoOrder, keeps, thing, (4, 0))

    def test_no_reach_is_refused(self):
        for thing in NO_REACHES:
            for order in ([], [0], [4, 3, 2, 1, 0]):
                self.refuses(NoReach, keeps, order, thing)

    def test_nothing_handed_in_is_changed(self):
        self.stays(keeps, [2, 0, 1], (2, 1))


if __name__ == "__main__":
    unittest.main()
