"""nearplace/stands.py: points 2, 6 and 7."""

import itertools
import unittest

from nearplace.errors import NoNumber, NoReach, NoStand
from nearplace.stands import all_stands, count_orders, steps_of, ways_between
from tests.support import (
    ANYTHING, NO_NUMBERS, NO_REACHES, REACHES, Case, count_by_things, is_kept, kept_orders,
)

# Long enough that each step is taken by some order, far from both ends or not.
LONG_ENOUGH = 9


def first_of(reach):
    return tuple(range(reach[0]))


def stand_in(order, reach, place):
    """The stand of an order when a place is to be filled, by the words of point 6."""
    stands_already = order[:place]
    return tuple(thing - place for thing in range(place + reach[0]) if thing not in stands_already)


def steps_by_orders(reach):
    """From each stand to its steps, as they are found in all orders of a row that is long enough."""
    found = {}
    for order in kept_orders(LONG_ENOUGH, reach):
        for place, thing in enumerate(order):
            step = (thing - place, stand_in(order, reach, place + 1))
            found.setdefault(stand_in(order, reach, place), set()).add(step)
    return found


def ways_one_by_one(reach, one, other, steps):
    """In how many ways steps lead from a stand to a stand, each gone by itself."""
    if steps == 0:
        return int(one == other)
    return sum(ways_one_by_one(reach, behind, other, steps - 1) for put, behind in steps_of(reach, one))


class AllStands(Case):
    def test_some_by_hand(self):
        self.same([()], all_stands((0, 0)))
        self.same([()], all_stands((0, 3)))
        self.same([(0, 1, 2)], all_stands((3, 0)))
        self.same([(-1,), (0,)], all_stands((1, 1)))
        self.same([(-3,), (-2,), (-1,), (0,)], all_stands((1, 3)))
        self.same([(-1, 0), (-1, 1), (0, 1)], all_stands((2, 1)))

    def test_each_reach_by_all_orders_of_a_row(self):
        for reach in REACHES:
            self.same(sorted(steps_by_orders(reach)), all_stands(reach))

    def test_they_have_the_form_that_is_told(self):
        for left, right in REACHES:
            due = [tuple(stand) for stand in itertools.combinations(range(-right, left), left)]
            self.same(sorted(due), all_stands((left, right)))
            self.assertIn(first_of((left, right)), all_stands((left, right)))

    def test_no_reach(self):
        for thing in NO_REACHES:
            self.refuses(NoReach, all_stands, thing)

    def test_told_lists_are_the_askers_own(self):
        for reach in REACHES:
            self.stays(all_stands, reach)
            self.assertIsNot(all_stands(reach), all_stands(reach))


class Steps(Case):
    def test_some_by_hand(self):
        self.same([(0, ())], steps_of((0, 0), ()))
        self.same([(0, ())], steps_of((0, 3), ()))
        self.same([(0, (0, 1))], steps_of((2, 0), (0, 1)))
        self.same([(0, (0,)), (1, (-1,))], steps_of((1, 1), (0,)))
        self.same([(-1, (0,))], steps_of((1, 1), (-1,)))
        self.same([(0, (0, 1)), (1, (-1, 1)), (2, (-1, 0))], steps_of((2, 2), (0, 1)))
        self.same([(-1, (0, 1)), (1, (-2, 1)), (2, (-2, 0))], steps_of((2, 2), (-1, 1)))

    def test_the_one_that_would_be_too_far_is_put(self):
        self.same([(-2, (-1, 1))], steps_of((2, 2), (-2, 0)))
        self.same([(-3, (-3, -2, 2))], steps_of((3, 3), (-3, -2, -1)))

    def test_each_stand_of_each_reach_by_all_orders_of_a_row(self):
        for reach in REACHES:
            for stand, steps in steps_by_orders(reach).items():
                self.same(sorted(steps), steps_of(reach, stand))

    def test_no_reach_ahead_of_no_stand(self):
        for thing in NO_REACHES:
            self.refuses(NoReach, steps_of, thing, (0,))
            self.refuses(NoReach, steps_of, thing, None)

    def test_no_stand(self):
        for reach in REACHES:
            for thing in ANYTHING:
                if thing.__class__ != tuple or any(item.__class__ != int for item in thing):
                    self.refuses(NoStand, steps_of, reach, thing)

    def test_tuples_that_are_no_stands(self):
        for left, right in REACHES:
            stands = all_stands((left, right))
            for length in range(5):
                for stand in itertools.product(range(-4, 4), repeat=length):
                    if length < 3 or left == right == 2 or stand[0] == 0:
                        if stand not in stands:
                            self.refuses(NoStand, steps_of, (left, right), stand)

    def test_truths_lists_and_great_numbers_are_no_stands(self):
        for thing in [(False,), [0], [-1], (10 ** 39,), (-(10 ** 39),), ((0,),), 0, "0", {0: 0}, ("0",)]:
            self.refuses(NoStand, steps_of, (1, 1), thing)
        for thing in [(0, True), (False, 1), (False, True), [0, 1], (1, 0), (0, 0), (0,), (0, 1, 2)]:
            self.refuses(NoStand, steps_of, (2, 2), thing)
        for thing in [[], None, 0, (0,), ((),), "", {}]:
            self.refuses(NoStand, steps_of, (0, 0), thing)

    def test_told_lists_are_the_askers_own(self):
        for reach in REACHES:
            for stand in all_stands(reach):
                self.stays(steps_of, reach, stand)
                self.assertIsNot(steps_of(reach, stand), steps_of(reach, stand))


class Ways(Case):
    def test_few_steps_gone_one_by_one(self):
        for reach in REACHES:
            stands = all_stands(reach)
            for one in stands:
                for other in stands:
                    for steps in range(5):
                        self.same(ways_one_by_one(reach, one, other, steps), ways_between(reach, one, other, steps))

    def test_no_steps_lead_to_the_same_stand_alone(self):
        for reach in REACHES:
            for one in all_stands(reach):
                for other in all_stands(reach):
                    self.same(int(one == other), ways_between(reach, one, other, 0))

    def test_forty_steps_are_two_times_twenty(self):
        for reach in REACHES:
            stands = all_stands(reach)
            one, other = stands[0], stands[-1]
            due = sum(ways_between(reach, one, mid, 20) * ways_between(reach, mid, other, 20) for mid in stands)
            self.same(due, ways_between(reach, one, other, 40))

    def test_from_the_one_to_the_other_not_back(self):
        self.same(1, ways_between((2, 1), (0, 1), (-1, 0), 1))
        self.same(0, ways_between((2, 1), (-1, 0), (0, 1), 1))

    def test_from_first_to_first_are_the_orders(self):
        for reach in REACHES:
            for many in range(41):
                first = first_of(reach)
                self.same(count_orders(many, reach), ways_between(reach, first, first, many))

    def test_refusals_in_their_order(self):
        for thing in NO_REACHES:
            self.refuses(NoReach, ways_between, thing, (0,), (0,), 1)
            self.refuses(NoReach, ways_between, thing, None, None, None)
        for thing in [None, (1,), (False,), [0], (0, 1), "", {}, 0, -1]:
            for steps in [0, 40, 41, -1, None, True]:
                self.refuses(NoStand, ways_between, (1, 1), thing, (0,), steps)
                self.refuses(NoStand, ways_between, (1, 1), (0,), thing, steps)
                self.refuses(NoStand, ways_between, (1, 1), thing, thing, steps)
        for thing in NO_NUMBERS:
            self.refuses(NoNumber, ways_between, (1, 1), (0,), (-1,), thing)

    def test_steps_below_none_and_above_forty(self):
        for reach in REACHES:
            first = first_of(reach)
            ways_between(reach, first, first, 40)
            for steps in (-1, 41, 42, 10 ** 39, True, False):
                self.refuses(NoNumber, ways_between, reach, first, first, steps)


class Counts(Case):
    def test_small_rows_by_going_through_all_orders(self):
        for reach in REACHES:
            for many in range(7):
                kept = [order for order in itertools.permutations(range(many)) if is_kept(order, reach)]
                self.same(len(kept), count_orders(many, reach))

    def test_all_rows_without_stands(self):
        for reach in REACHES:
            for many in range(41):
                self.same(count_by_things(many, reach), count_orders(many, reach))

    def test_known_counts(self):
        self.same([1, 1, 2, 3, 5, 8, 13, 21], [count_orders(many, (1, 1)) for many in range(8)])
        self.same(165580141, count_orders(40, (1, 1)))
        self.same([1, 1, 2, 4, 7, 13, 24, 44], [count_orders(many, (2, 1)) for many in range(8)])
        self.same([1, 1, 2, 6, 14, 31, 73, 172, 400], [count_orders(many, (2, 2)) for many in range(9)])
        self.same([1, 1, 2, 6, 24, 78, 230, 675, 2069], [count_orders(many, (3, 3)) for many in range(9)])

    def test_one_order_where_a_side_is_barred(self):
        for reach in REACHES:
            if 0 in reach:
                self.same([1] * 41, [count_orders(many, reach) for many in range(41)])

    def test_no_reach_ahead_of_no_number(self):
        for thing in NO_REACHES:
            self.refuses(NoReach, count_orders, 3, thing)
            self.refuses(NoReach, count_orders, None, thing)
            self.refuses(NoReach, count_orders, 41, thing)

    def test_no_number(self):
        for reach in REACHES:
            for thing in NO_NUMBERS:
                self.refuses(NoNumber, count_orders, thing, reach)


if __name__ == "__main__":
    unittest.main()
