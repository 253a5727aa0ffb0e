"""nearplace/rings.py: points 2, 3, 14 and 15."""

import itertools
import unittest

from nearplace.errors import NoKeep, NoNumber, NoOrder, NoReach, TooMany
from nearplace.rings import keeps_ring, ring_count, ring_counts, ring_moves, ring_orders, turns_of
from nearplace.stands import count_orders
from tests.support import NO_NUMBERS, NO_ORDERS, NO_REACHES, REACHES, Case

BY_AN_ORDER = [keeps_ring, ring_moves, turns_of]
BY_MANY = [ring_counts, ring_count, ring_orders]


def moves_on_ring(order, reach):
    """The ring moves by the words of the document, thing by thing, or None where the order does not keep the reach."""
    many, moves = len(order), {}
    for place, thing in enumerate(order):
        move = place - thing
        near = [each for each in (move, move + many, move - many) if -reach[0] <= each <= reach[1]]
        if not near:
            return None
        moves[thing], = near
    return [moves[thing] for thing in range(many)]


def counts_by_things(many, reach):
    """How many orders there are by turns, by the sets of things that stand and the sum of their moves (no stands)."""
    counts = {(0, 0): 1}
    for place in range(many):
        after = {}
        for (mask, moved), count in counts.items():
            for move in range(-reach[0], reach[1] + 1):
                behind = mask | 1 << (place - move) % many
                if behind != mask:
                    after[(behind, moved + move)] = after.get((behind, moved + move), 0) + count
        counts = after
    told = {turns: 0 for turns in range(-reach[0], reach[1] + 1)}
    for (mask, moved), count in counts.items():
        told[moved // many] += count
    return told


def turned(many, move):
    """The order in which each thing has the one ring move."""
    return [(place - move) % many for place in range(many)]


def sizes(reach, *more):
    """The fewest things on a ring, one more, and others that are not fewer."""
    fewest = sum(reach) + 1
    return [fewest, fewest + 1] + [many for many in more if many > fewest + 1]


class SmallRings(Case):
    def test_all_orders_gone_through(self):
        for reach in REACHES:
            for many in range(sum(reach) + 1, 8):
                kept, counts = [], {turns: 0 for turns in range(-reach[0], reach[1] + 1)}
                for each in itertools.permutations(range(many)):
                    order = list(each)
                    moves = moves_on_ring(order, reach)
                    self.same(moves is not None, keeps_ring(order, reach))
                    if moves is None:
                        self.refuses(NoKeep, ring_moves, order, reach)
                        self.refuses(NoKeep, turns_of, order, reach)
                    else:
                        self.same(moves, ring_moves(order, reach))
                        self.same(sum(moves) // many, turns_of(order, reach))
                        self.assertEqual(0, sum(moves) % many)
                        counts[sum(moves) // many] += 1
                        kept.append(order)
                self.tells(many, reach, kept, counts)

    def tells(self, many, reach, kept, counts):
        self.same(counts, ring_counts(many, reach))
        self.same(len(kept), ring_count(many, reach))
        if len(kept) <= 300:
            self.same(kept, ring_orders(many, reach))
        else:
            self.refuses(TooMany, ring_orders, many, reach)

    def test_some_by_hand(self):
        self.same(True, keeps_ring([0], (0, 0)))
        self.same([0], ring_moves([0], (0, 0)))
        self.same(0, turns_of([0], (0, 0)))
        self.same({0: 1}, ring_counts(1, (0, 0)))
        self.same([[0]], ring_orders(1, (0, 0)))
        self.same({-1: 1, 0: 1}, ring_counts(2, (1, 0)))
        self.same([[0, 1], [1, 0]], ring_orders(2, (1, 0)))
        self.same([-1, -1], ring_moves([1, 0], (1, 0)))
        self.same(-1, turns_of([1, 0], (1, 0)))
        self.same(1, turns_of([1, 0], (0, 1)))
        self.same({-1: 1, 0: 4, 1: 1}, ring_counts(3, (1, 1)))
        self.same({-1: 1, 0: 7, 1: 1}, ring_counts(4, (1, 1)))
        self.same([1, 1, 1, 1], ring_moves([3, 0, 1, 2], (1, 1)))
        self.same(1, turns_of([3, 0, 1, 2], (1, 1)))
        self.same([-1, -1, -1, -1], ring_moves([1, 2, 3, 0], (1, 1)))
        self.same(-1, turns_of([1, 2, 3, 0], (1, 1)))
        self.same([-1, 0, 0, 1], ring_moves([3, 1, 2, 0], (1, 1)))
        self.same(False, keeps_ring([2, 1, 0, 3], (1, 1)))
        self.same(-2, turns_of([2, 3, 4, 5, 0, 1], (3, 1)))

    def test_the_fewest_things_may_stand_anyhow(self):
        for reach in REACHES:
            many = sum(reach) + 1
            count = len(list(itertools.permutations(range(many))))
            self.same(count, ring_count(many, reach))
            self.same(True, keeps_ring(list(range(many - 1, -1, -1)), reach))


class LongRings(Case):
    def test_counts_without_stands(self):
        for reach in REACHES:
            for many in sizes(reach, 9, 11):
                due = counts_by_things(many, reach)
                self.same(due, ring_counts(many, reach))
                self.same(sum(due.values()), ring_count(many, reach))
        for many in (24, 40):
            for reach in ((0, 0), (1, 0), (0, 1), (1, 1), (2, 0), (0, 2), (2, 1)):
                self.same(counts_by_things(many, reach), ring_counts(many, reach))

    def test_turning_all_things_moves_the_reach(self):
        for many in (8, 20, 39, 40):
            for both in range(7):
                told = []
                for left in range(4):
                    if both - left in range(4):
                        counts = ring_counts(many, (left, both - left))
                        self.same(list(range(-left, both - left + 1)), sorted(counts))
                        told.append([counts[turns] for turns in sorted(counts)])
                for counts in told:
                    self.same(told[0], counts)
                    self.same(told[0], counts[::-1])
                    self.same(1, counts[0])

    def test_more_than_in_the_row(self):
        for reach in REACHES:
            for many in (8, 40):
                self.assertGreaterEqual(ring_counts(many, reach)[0], count_orders(many, reach))

    def test_turned_orders(self):
        for reach in REACHES:
            for many in sizes(reach, 20, 39, 40):
                for move in range(-reach[0], reach[1] + 1):
                    self.same(True, keeps_ring(turned(many, move), reach))
                    self.same([move] * many, ring_moves(turned(many, move), reach))
                    self.same(move, turns_of(turned(many, move), reach))
                if many > sum(reach) + 1:
                    for move in (-reach[0] - 1, reach[1] + 1):
                        self.same(False, keeps_ring(turned(many, move), reach))
                        self.refuses(NoKeep, ring_moves, turned(many, move), reach)
                        self.refuses(NoKeep, turns_of, turned(many, move), reach)

    def test_two_things_change_their_places_over_the_end(self):
        order = [39] + list(range(1, 39)) + [0]
        self.same([-1] + [0] * 38 + [1], ring_moves(order, (1, 1)))
        self.same(0, turns_of(order, (1, 1)))
        self.same(False, keeps_ring(order, (1, 0)))
        self.same(False, keeps_ring(order, (0, 1)))


class ThreeHundred(Case):
    def test_each_ring_and_reach_on_both_sides(self):
        for reach in REACHES:
            for many in range(sum(reach) + 1, 41):
                count = ring_count(many, reach)
                if count > 300:
                    self.refuses(TooMany, ring_orders, many, reach)
                    continue
                orders = ring_orders(many, reach)
                self.assertEqual(count, len(orders))
                self.same(sorted(orders), orders)
                self.assertEqual(count, len({tuple(order) for order in orders}))
                counts = ring_counts(many, reach)
                turns = [turns_of(order, reach) for order in orders]
                self.same(counts, {each: turns.count(each) for each in counts})

    def test_the_nearest_to_three_hundred_that_there_are(self):
        # On no ring of at most forty things are there just three hundred for any reach.
        counts = {ring_count(many, reach) for reach in REACHES for many in range(sum(reach) + 1, 41)}
        self.assertEqual(265, max(count for count in counts if count <= 300))
        self.assertEqual(324, min(count for count in counts if count > 300))


class Refusals(Case):
    def test_no_order_ahead_of_all(self):
        for function in BY_AN_ORDER:
            for thing in NO_ORDERS:
                for reach in ((0, 0), (3, 3), None, (4, 4)):
                    self.refuses(NoOrder, function, thing, reach)

    def test_no_reach_ahead_of_no_number(self):
        for thing in NO_REACHES:
            for function in BY_AN_ORDER:
                self.refuses(NoReach, function, [], thing)
                self.refuses(NoReach, function, [4, 3, 2, 1, 0], thing)
            for function in BY_MANY:
                self.refuses(NoReach, function, 9, thing)
                self.refuses(NoReach, function, 0, thing)
                self.refuses(NoReach, function, None, thing)

    def test_fewer_things(self):
        for reach in REACHES:
            for many in range(sum(reach) + 1):
                for function in BY_AN_ORDER:
                    self.refuses(NoNumber, function, list(range(many)), reach)
                    # Ahead of NoKeep: some of these would be too far.
                    self.refuses(NoNumber, function, list(range(many - 1, -1, -1)), reach)
                for function in BY_MANY:
                    self.refuses(NoNumber, function, many, reach)
            for function in BY_AN_ORDER:
                function(list(range(sum(reach) + 1)), reach)

    def test_no_number_of_things_ahead_of_too_many(self):
        for function in BY_MANY:
            for reach in REACHES:
                for thing in NO_NUMBERS + [0, 42, 100]:
                    self.refuses(NoNumber, function, thing, reach)

    def test_no_keep(self):
        for reach in REACHES:
            order = list(range(19, -1, -1))
            self.same(False, keeps_ring(order, reach))
            self.refuses(NoKeep, ring_moves, order, reach)
            self.refuses(NoKeep, turns_of, order, reach)


class ListsOfTheAsker(Case):
    def test_nothing_handed_in_is_changed_and_nothing_told_is_kept(self):
        for reach in REACHES:
            many = sum(reach) + 1
            for function in BY_AN_ORDER:
                self.stays(function, turned(many, 1), reach)
                self.stays(function, list(range(40)), reach)
            self.stays(ring_counts, many, reach)
            self.stays(ring_count, many, reach)
            if many < 6:
                self.stays(ring_orders, many, reach)

    def test_no_two_told_are_one(self):
        self.no_two_are_one(ring_orders(5, (2, 2)) + ring_orders(5, (2, 2)))
        self.assertIsNot(ring_counts(5, (2, 2)), ring_counts(5, (2, 2)))
        order = [0, 1, 2]
        self.assertIsNot(order, ring_moves(order, (1, 1)))


if __name__ == "__main__":
    unittest.main()
