"""nearplace/spread.py: points 2, 3 and 16."""

import unittest

from nearplace.errors import NoNumber, NoReach
from nearplace.spread import at_table, by_moved, by_pairs, by_sum
from nearplace.stands import count_orders
from nearplace.wishes import count_wished
from tests.support import NO_NUMBERS, NO_REACHES, REACHES, Case, kept_orders

LISTS = [by_moved, by_sum, by_pairs]
ALL = [at_table] + LISTS


def moved_in(order):
    return sum(1 for place, thing in enumerate(order) if place != thing)


def sum_in(order):
    return sum(abs(place - thing) for place, thing in enumerate(order))


def pairs_in(order):
    return sum(1 for place, thing in enumerate(order) for behind in order[place + 1:] if thing > behind)


def tally(numbers, most):
    return [numbers.count(number) for number in range(most + 1)]


def table_of(orders, many):
    return [[sum(1 for order in orders if order[place] == thing) for place in range(many)] for thing in range(many)]


def lesser_missing(mask, thing):
    """How many things below the thing do not stand yet."""
    return thing - (mask & (1 << thing) - 1).bit_count()


GAINS = {
    by_moved: lambda mask, thing, place: int(thing != place),
    by_sum: lambda mask, thing, place: abs(thing - place),
    by_pairs: lambda mask, thing, place: lesser_missing(mask, thing),
}


def sums_by_things(many, reach, gain):
    """From each sum to how many orders have it, by the sets of things that stand (no stands)."""
    counts = {(0, 0): 1}
    for place in range(many):
        after = {}
        late = place - reach[1]
        for (mask, gained), count in counts.items():
            for thing in range(max(0, late), min(many, place + reach[0] + 1)):
                behind = mask | 1 << thing
                if behind != mask and (late < 0 or behind >> late & 1):
                    spot = (behind, gained + gain(mask, thing, place))
                    after[spot] = after.get(spot, 0) + count
        counts = after
    return {gained: count for (mask, gained), count in counts.items() if mask == (1 << many) - 1}


class SmallRows(Case):
    def test_all_orders_gone_through(self):
        for reach in REACHES:
            for many in range(8):
                orders = kept_orders(many, reach)
                moved, sums, pairs = ([kind(order) for order in orders] for kind in (moved_in, sum_in, pairs_in))
                self.same(table_of(orders, many), at_table(many, reach))
                self.same(tally(moved, many), by_moved(many, reach))
                self.same(tally(sums, max(sums)), by_sum(many, reach))
                self.same(tally(pairs, max(pairs)), by_pairs(many, reach))

    def test_no_things_and_one_thing(self):
        for reach in REACHES:
            self.same([], at_table(0, reach))
            self.same([[1]], at_table(1, reach))
            self.same([1, 0], by_moved(1, reach))
            for function in LISTS:
                self.same([1], function(0, reach))
            for function in (by_sum, by_pairs):
                self.same([1], function(1, reach))

    def test_some_by_hand(self):
        self.same([[2, 1, 0], [1, 1, 1], [0, 1, 2]], at_table(3, (1, 1)))
        # The thing 0 stands at place 2 in none, the thing 2 at place 0 in one.
        self.same([[2, 2, 0], [1, 1, 2], [1, 1, 2]], at_table(3, (2, 1)))
        self.same([[2, 1, 1], [2, 1, 1], [0, 2, 2]], at_table(3, (1, 2)))
        self.same([1, 0, 2, 0], by_moved(3, (1, 1)))
        self.same([1, 0, 2], by_sum(3, (1, 1)))
        self.same([1, 2], by_pairs(3, (1, 1)))
        self.same([1, 0, 2, 1], by_moved(3, (2, 1)))
        self.same([1, 0, 2, 0, 1], by_sum(3, (2, 1)))
        self.same([1, 2, 1], by_pairs(3, (2, 1)))
        self.same([1, 0, 3, 2], by_moved(3, (2, 2)))
        self.same([1, 0, 2, 0, 3], by_sum(3, (2, 2)))
        self.same([1, 2, 2, 1], by_pairs(3, (2, 2)))

    def test_one_order_where_a_side_is_barred(self):
        for reach in REACHES:
            if 0 in reach:
                for many in range(41):
                    due = [[int(thing == place) for place in range(many)] for thing in range(many)]
                    self.same(due, at_table(many, reach))
                    self.same([1] + [0] * many, by_moved(many, reach))
                    self.same([1], by_sum(many, reach))
                    self.same([1], by_pairs(many, reach))


class LongRows(Case):
    def test_lists_come_to_all_orders(self):
        for reach in REACHES:
            for many in range(41):
                count = count_orders(many, reach)
                for function in LISTS:
                    told = function(many, reach)
                    self.same(count, sum(told))
                    self.same(1, told[0])
                self.same(many + 1, len(by_moved(many, reach)))
                self.assertGreater(by_sum(many, reach)[-1], 0)
                self.assertGreater(by_pairs(many, reach)[-1], 0)

    def test_lists_without_stands(self):
        for reach in REACHES:
            for many in (12, 27, 40):
                for function in LISTS:
                    due = sums_by_things(many, reach, GAINS[function])
                    told = function(many, reach)
                    self.same(due, {gained: count for gained, count in enumerate(told) if count})
                self.same(max(due) + 1, len(told))

    def test_each_thing_stands_somewhere_and_at_each_place_is_one(self):
        for reach in REACHES:
            for many in range(41):
                table = at_table(many, reach)
                self.same([many] * many, [len(row) for row in table])
                for at in range(many):
                    self.same(count_orders(many, reach), sum(table[at]))
                    self.same(count_orders(many, reach), sum(row[at] for row in table))

    def test_the_table_holds_places_as_wishes_do(self):
        for reach in REACHES:
            for many in (13, 40):
                table = at_table(many, reach)
                for thing in range(0, many, 3):
                    for place in range(max(0, thing - 4), min(many, thing + 5)):
                        self.same(count_wished(many, reach, [("at", thing, place)]), table[thing][place])

    def test_the_lists_agree_with_the_table_and_with_wishes(self):
        for reach in REACHES:
            for many in (9, 39, 40):
                table = at_table(many, reach)
                spots = [(thing, place) for thing in range(many) for place in range(many)]
                moved = sum(table[thing][place] for thing, place in spots if thing != place)
                far = sum(table[thing][place] * abs(thing - place) for thing, place in spots)
                self.same(moved, sum(k * count for k, count in enumerate(by_moved(many, reach))))
                self.same(far, sum(k * count for k, count in enumerate(by_sum(many, reach))))
                barred = [("not", thing, thing) for thing in range(many)]
                self.same(count_wished(many, reach, barred), by_moved(many, reach)[many])

    def test_the_backs_of_all_orders_move_as_far(self):
        for left, right in REACHES:
            for many in (11, 40):
                for function in LISTS:
                    self.same(function(many, (left, right)), function(many, (right, left)))
                turned = [list(column) for column in zip(*at_table(many, (left, right)))]
                self.same(turned, at_table(many, (right, left)))

    def test_moves_go_as_far_to_the_left_as_to_the_right(self):
        for reach in REACHES:
            self.assertFalse(any(by_sum(40, reach)[1::2]))

    def test_pairs_of_neighbours(self):
        for many in range(41):
            self.same(by_moved(many, (1, 1))[::2], by_pairs(many, (1, 1)))


class Refusals(Case):
    def test_no_reach_ahead_of_no_number(self):
        for function in ALL:
            for thing in NO_REACHES:
                for many in (0, 3, 40, 41, -1, True, None, "3"):
                    self.refuses(NoReach, function, many, thing)

    def test_no_number(self):
        for function in ALL:
            for reach in ((0, 0), (1, 1), (0, 3), (3, 3)):
                for thing in NO_NUMBERS + [42, 100]:
                    self.refuses(NoNumber, function, thing, reach)

    def test_forty_things_but_no_more(self):
        for function in ALL:
            for reach in REACHES:
                function(40, reach)
                self.refuses(NoNumber, function, 41, reach)


class ListsOfTheAsker(Case):
    def test_nothing_told_is_kept(self):
        for reach in REACHES:
            for function in ALL:
                for many in (0, 1, 5):
                    self.stays(function, many, reach)

    def test_no_two_told_are_one(self):
        for reach in REACHES:
            self.no_two_are_one(at_table(5, reach) + at_table(5, reach))
            told = [function(5, reach) for function in ALL for time in range(2)]
            self.no_two_are_one(told)


if __name__ == "__main__":
    unittest.main()
