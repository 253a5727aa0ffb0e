"""nearplace/numbered.py: points 2, 3 and 8."""

import itertools
import unittest

from nearplace.errors import NoKeep, NoNumber, NoOrder, NoReach, TooMany
from nearplace.numbered import all_orders, next_order, nth_order, number_of
from nearplace.stands import count_orders
from tests.support import NO_NUMBERS, NO_ORDERS, NO_REACHES, NO_WHOLES, REACHES, Case, is_kept, kept_orders

BY_AN_ORDER = [number_of, next_order]


class SmallRows(Case):
    def test_all_orders_gone_through(self):
        for reach in REACHES:
            for many in range(7):
                orders = [list(order) for order in itertools.permutations(range(many)) if is_kept(order, reach)]
                count = count_orders(many, reach)
                self.same(orders, [nth_order(many, reach, number) for number in range(count)])
                self.same(list(range(count)), [number_of(order, reach) for order in orders])
                self.same(orders[1:], [next_order(order, reach) for order in orders[:-1]])
                self.assertIsNone(next_order(orders[-1], reach))

    def test_all_orders_or_too_many(self):
        for reach in REACHES:
            for many in range(8):
                orders = kept_orders(many, reach)
                if len(orders) <= 300:
                    self.same(orders, all_orders(many, reach))
                else:
                    self.refuses(TooMany, all_orders, many, reach)

    def test_some_by_hand(self):
        self.same([], nth_order(0, (3, 3), 0))
        self.same([0], nth_order(1, (0, 0), 0))
        self.same([1, 0, 2], nth_order(3, (1, 1), 2))
        self.same(2, number_of([1, 0, 2], (1, 1)))
        self.same([0, 2, 1], next_order([0, 1, 2], (1, 1)))
        self.assertIsNone(next_order([1, 0, 2], (1, 1)))
        self.same([[0, 1, 2], [0, 2, 1], [1, 0, 2], [2, 0, 1]], all_orders(3, (2, 1)))
        self.same([[0, 1, 2], [0, 2, 1], [1, 0, 2], [1, 2, 0]], all_orders(3, (1, 2)))

    def test_no_things_and_one_thing(self):
        for reach in REACHES:
            for many in (0, 1):
                only = list(range(many))
                self.same([only], all_orders(many, reach))
                self.same(only, nth_order(many, reach, 0))
                self.same(0, number_of(only, reach))
                self.assertIsNone(next_order(only, reach))


class LongRows(Case):
    def test_numbers_there_and_back(self):
        for reach in REACHES:
            for many in (8, 13, 39, 40):
                count = count_orders(many, reach)
                for number in sorted({count * part // 23 for part in range(23)} | {count - 1}):
                    order = nth_order(many, reach, number)
                    self.assertTrue(is_kept(order, reach))
                    self.same(list(range(many)), sorted(order))
                    self.same(number, number_of(order, reach))

    def test_greater_numbers_have_greater_orders(self):
        for reach in REACHES:
            count = count_orders(40, reach)
            numbers = sorted({count * part // 50 for part in range(50)})
            orders = [nth_order(40, reach, number) for number in numbers]
            self.same(sorted(orders), orders)

    def test_the_order_behind_has_the_number_behind(self):
        for reach in REACHES:
            count = count_orders(40, reach)
            for number in sorted({count * part // 7 for part in range(7)}):
                if number + 1 < count:
                    told = next_order(nth_order(40, reach, number), reach)
                    self.same(nth_order(40, reach, number + 1), told)

    def test_first_and_last(self):
        for reach in REACHES:
            last = count_orders(40, reach) - 1
            self.same(list(range(40)), nth_order(40, reach, 0))
            self.same(0, number_of(list(range(40)), reach))
            self.same(last, number_of(nth_order(40, reach, last), reach))
            self.assertIsNone(next_order(nth_order(40, reach, last), reach))
            self.refuses(NoNumber, nth_order, 40, reach, last + 1)
        self.same([place ^ 1 for place in range(40)], nth_order(40, (1, 1), 165580140))

    def test_all_of_many_things(self):
        for reach in REACHES:
            if 0 in reach:
                self.same([list(range(40))], all_orders(40, reach))
            else:
                self.refuses(TooMany, all_orders, 40, reach)


class ThreeHundred(Case):
    def test_each_row_and_reach_on_both_sides(self):
        for reach in REACHES:
            for many in range(41):
                count = count_orders(many, reach)
                if count <= 300:
                    self.assertEqual(count, len(all_orders(many, reach)))
                else:
                    self.refuses(TooMany, all_orders, many, reach)

    def test_the_nearest_to_three_hundred_that_there_are(self):
        # No row of at most forty things has just three hundred for any reach.
        counts = {count_orders(many, reach) for many in range(41) for reach in REACHES}
        self.assertEqual(274, max(count for count in counts if count <= 300))
        self.assertEqual(301, min(count for count in counts if count > 300))
        self.same(kept_orders(10, (2, 1)), all_orders(10, (2, 1)))
        self.same(kept_orders(10, (1, 2)), all_orders(10, (1, 2)))
        self.refuses(TooMany, all_orders, 7, (3, 2))
        self.refuses(TooMany, all_orders, 7, (2, 3))


class Refusals(Case):
    def test_no_reach_ahead_of_no_number(self):
        for thing in NO_REACHES:
            self.refuses(NoReach, nth_order, 3, thing, 0)
            self.refuses(NoReach, nth_order, None, thing, None)
            self.refuses(NoReach, nth_order, 41, thing, -1)
            self.refuses(NoReach, all_orders, 3, thing)
            self.refuses(NoReach, all_orders, None, thing)
            self.refuses(NoReach, all_orders, 41, thing)

    def test_no_number_of_things(self):
        for thing in NO_NUMBERS:
            for reach in ((0, 0), (1, 1), (3, 3)):
                self.refuses(NoNumber, nth_order, thing, reach, 0)
                self.refuses(NoNumber, nth_order, thing, reach, None)
                self.refuses(NoNumber, all_orders, thing, reach)

    def test_no_number_among_the_orders(self):
        for thing in NO_WHOLES:
            for many in (0, 1, 3, 40):
                self.refuses(NoNumber, nth_order, many, (1, 1), thing)

    def test_the_numbers_ahead_of_the_first_and_behind_the_last(self):
        for reach in REACHES:
            for many in range(41):
                count = count_orders(many, reach)
                nth_order(many, reach, count - 1)
                for number in (count, count + 1, 10 ** 40 - 1, -1, -count):
                    self.refuses(NoNumber, nth_order, many, reach, number)

    def test_no_order_ahead_of_all(self):
        for function in BY_AN_ORDER:
            for thing in NO_ORDERS:
                self.refuses(NoOrder, function, thing, (3, 3))
                self.refuses(NoOrder, function, thing, (0, 0))
                self.refuses(NoOrder, function, thing, None)
                self.refuses(NoOrder, function, thing, (4, 4))

    def test_no_reach_ahead_of_no_keep(self):
        for function in BY_AN_ORDER:
            for thing in NO_REACHES:
                self.refuses(NoReach, function, [], thing)
                self.refuses(NoReach, function, [4, 3, 2, 1, 0], thing)

    def test_no_keep(self):
        for function in BY_AN_ORDER:
            for reach in REACHES:
                for order in itertools.permutations(range(5)):
                    if not is_kept(order, reach):
                        self.refuses(NoKeep, function, list(order), reach)
                self.refuses(NoKeep, function, list(range(39, -1, -1)), reach)


class ListsOfTheAsker(Case):
    def test_nothing_handed_in_is_changed_and_nothing_told_is_kept(self):
        for reach in REACHES:
            self.stays(all_orders, 4, reach)
            self.stays(nth_order, 4, reach, 0)
            self.stays(nth_order, 40, reach, count_orders(40, reach) - 1)
            for order in all_orders(4, reach):
                self.stays(number_of, order, reach)
                self.stays(next_order, order, reach)

    def test_no_two_told_are_one(self):
        told = all_orders(9, (2, 1)) + all_orders(9, (2, 1))
        self.no_two_are_one(told)
        self.assertIsNot(nth_order(4, (1, 1), 2), nth_order(4, (1, 1), 2))
        self.assertIsNot(next_order([0, 1], (1, 1)), next_order([0, 1], (1, 1)))

    def test_changing_the_order_later_changes_nothing_told(self):
        order = [0, 1, 2, 3]
        told = next_order(order, (1, 1))
        order.clear()
        self.same([0, 1, 3, 2], told)


if __name__ == "__main__":
    unittest.main()
