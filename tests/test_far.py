"""nearplace/far.py: points 2, 3, 17 and 18."""

import unittest
from fractions import Fraction

from nearplace.errors import NoNumber, NoReach
from nearplace.far import count_rest, far_count, rule_of, shortest_rule
from nearplace.stands import all_stands, count_orders, steps_of
from tests.support import NO_REACHES, NO_WHOLES, REACHES, Case, count_by_things, kept_orders

BOUNDS = [1, 2, 3, 7, 10, 97, 1000, 65536, 10 ** 9 + 7, 999999999989, 10 ** 12 - 1, 10 ** 12]
FAR_ONES = [10 ** 18, 10 ** 18 - 1, 10 ** 9 + 7, 2 ** 59, 2 ** 59 - 1, 123456789012345678]


def gone_on(rule, counts, many):
    """The counts gone on by the rule until there is one of so many things."""
    counts = list(counts)
    while len(counts) <= many:
        counts.append(sum(times * counts[-back] for back, times in enumerate(rule, 1)))
    return counts


def rank(rows):
    """How many of the rows are no mix of others."""
    rows = [[Fraction(number) for number in row] for row in rows]
    found = 0
    for column in range(len(rows[0])):
        lead = next((row for row in rows[found:] if row[column]), None)
        if lead is not None:
            rows.remove(lead)
            rows.insert(found, lead)
            for at in range(found + 1, len(rows)):
                times = rows[at][column] / lead[column]
                rows[at] = [number - times * less for number, less in zip(rows[at], lead)]
            found += 1
    return found


def rest_by_stands(many, reach, bound):
    """What is left of the count by a bound, by the ways between all stands, squared again and again (no rule)."""
    stands = all_stands(reach)
    once = [[0] * len(stands) for stand in stands]
    for at, stand in enumerate(stands):
        for put, behind in steps_of(reach, stand):
            once[at][stands.index(behind)] += 1

    def times(one, other):
        columns = list(zip(*other))
        return [[sum(a * b for a, b in zip(row, column)) % bound for column in columns] for row in one]

    ways = [[int(at == to) for to in range(len(stands))] for at in range(len(stands))]
    for figure in bin(many)[2:]:
        ways = times(ways, ways)
        if figure == "1":
            ways = times(ways, once)
    first = stands.index(tuple(range(reach[0])))
    return ways[first][first] % bound


class Rules(Case):
    def test_some_by_hand(self):
        for side in range(4):
            self.same([1], rule_of((0, side)))
            self.same([1], rule_of((side, 0)))
        self.same([1, 1], rule_of((1, 1)))
        self.same([1, 1, 1], rule_of((1, 2)))
        self.same([1, 1, 1], rule_of((2, 1)))
        self.same([1, 1, 1, 1], rule_of((3, 1)))
        self.same([2, 0, 2, 0, -1], rule_of((2, 2)))
        self.same([2, 2, 0, 10, 8, -2, -16, -10, -2, 4, 2, 0, 2, 1], rule_of((3, 3)))

    def test_it_holds_from_its_length_on(self):
        for reach in REACHES:
            rule = rule_of(reach)
            counts = [count_orders(many, reach) for many in range(41)]
            self.assertGreaterEqual(len(rule), 1)
            self.assertTrue(all(number.__class__ is int for number in rule))
            for many in range(len(rule), 41):
                due = sum(times * counts[many - back] for back, times in enumerate(rule, 1))
                self.same(due, counts[many])

    def test_no_shorter_rule_holds_and_no_other_one_of_this_length(self):
        for reach in REACHES:
            length = len(rule_of(reach))
            counts = [count_orders(many, reach) for many in range(41)]
            # A rule would make the window behind these a mix of them, in one way alone as none of them is one of others;
            # a shorter rule would make one of them a mix of those ahead.
            self.assertEqual(length, rank([counts[at:at + 20] for at in range(length)]))
            self.assertEqual(length, rank([counts[at:at + 20] for at in range(21)]))

    def test_no_reach_has_a_rule_whose_last_number_is_0(self):
        # Point 17 lets the last number be 0, but of the sixteen reaches none has such a rule.
        for reach in REACHES:
            self.assertNotEqual(0, rule_of(reach)[-1])

    def test_rules_of_other_counts_whose_last_number_is_0(self):
        self.same([1, 0], shortest_rule([2, 1, 1, 1, 1, 1], 3))
        self.same([1, 0, 0], shortest_rule([1, 2, 1, 1, 1, 1], 3))
        self.same([1, 1, 0, 0], shortest_rule([5, 7, 0, 1, 1, 2, 3, 5, 8, 13], 5))
        self.same([0], shortest_rule([1, 0, 0, 0], 2))
        self.same([-1, 0], shortest_rule([3, 1, -1, 1, -1, 1], 3))

    def test_no_reach(self):
        for thing in NO_REACHES:
            self.refuses(NoReach, rule_of, thing)


class FarCounts(Case):
    def test_small_rows_by_going_through_all_orders(self):
        for reach in REACHES:
            for many in range(8):
                self.same(len(kept_orders(many, reach)), far_count(many, reach))

    def test_up_to_forty_things_by_the_stands(self):
        for reach in REACHES:
            for many in range(41):
                self.same(count_orders(many, reach), far_count(many, reach))

    def test_behind_them_by_the_rule(self):
        for reach in REACHES:
            counts = gone_on(rule_of(reach), [count_orders(many, reach) for many in range(41)], 2000)
            for many in list(range(41, 60)) + [100, 999, 1000, 1001, 1999, 2000]:
                self.same(counts[many], far_count(many, reach))

    def test_behind_them_without_stands_and_rule(self):
        for reach in REACHES:
            for many in (41, 60, 150):
                self.same(count_by_things(many, reach), far_count(many, reach))
        for reach in ((1, 1), (2, 1), (2, 2), (3, 3)):
            self.same(count_by_things(2000, reach), far_count(2000, reach))

    def test_no_things_one_thing_and_the_most(self):
        for reach in REACHES:
            self.same(1, far_count(0, reach))
            self.same(1, far_count(1, reach))
            far_count(2000, reach)
            self.refuses(NoNumber, far_count, 2001, reach)
        self.same(1, far_count(2000, (0, 3)))
        self.same(165580141, far_count(40, (1, 1)))
        self.same(573147844013817084101, far_count(100, (1, 1)))

    def test_refusals(self):
        for thing in NO_REACHES:
            for many in (0, 3, 2000, 2001, -1, True, None):
                self.refuses(NoReach, far_count, many, thing)
        for thing in NO_WHOLES + [-1, 2001, 2002, 10 ** 18, 10 ** 40 - 1, -(10 ** 39)]:
            for reach in ((0, 0), (1, 1), (3, 3)):
                self.refuses(NoNumber, far_count, thing, reach)


class Rests(Case):
    def test_held_against_the_far_counts(self):
        for reach in REACHES:
            for many in list(range(45)) + [100, 1024, 1999, 2000]:
                count = far_count(many, reach)
                for bound in BOUNDS:
                    self.same(count % bound, count_rest(many, reach, bound))

    def test_farther_by_the_rule(self):
        counts = gone_on([2, 0, 2, 0, -1], [count_orders(many, (2, 2)) for many in range(5)], 2500)
        for many in (2001, 2002, 2499, 2500):
            for bound in BOUNDS:
                self.same(counts[many] % bound, count_rest(many, (2, 2), bound))

    def test_far_ones_by_the_ways_between_stands(self):
        for reach in REACHES:
            for many in FAR_ONES[:2] if reach == (3, 3) else FAR_ONES:
                for bound in (97, 10 ** 12):
                    self.same(rest_by_stands(many, reach, bound), count_rest(many, reach, bound))

    def test_far_ones_go_on_by_the_rule(self):
        for reach in REACHES:
            rule = rule_of(reach)
            for many in FAR_ONES:
                for bound in (10 ** 12, 999999999989, 2):
                    due = sum(times * count_rest(many - back, reach, bound) for back, times in enumerate(rule, 1))
                    self.same(due % bound, count_rest(many, reach, bound))

    def test_some_by_hand(self):
        self.same(1, count_rest(10 ** 18, (0, 0), 10 ** 12))
        self.same(0, count_rest(10 ** 18, (3, 3), 1))
        self.same(0, count_rest(0, (3, 3), 1))
        self.same(1, count_rest(0, (3, 3), 2))
        # These counts are the Fibonacci numbers, of which each third one is even, and the figures come again by sixty.
        self.same(0, count_rest(3 * 10 ** 17 + 2, (1, 1), 2))
        self.same(1, count_rest(3 * 10 ** 17, (1, 1), 2))
        self.same(count_orders(40, (1, 1)) % 10, count_rest(6 * 10 ** 17 + 40, (1, 1), 10))

    def test_the_most_and_more(self):
        for reach in REACHES:
            count_rest(10 ** 18, reach, 10 ** 12)
            self.refuses(NoNumber, count_rest, 10 ** 18 + 1, reach, 10 ** 12)
            self.refuses(NoNumber, count_rest, 10 ** 18, reach, 10 ** 12 + 1)
            self.refuses(NoNumber, count_rest, 10 ** 18, reach, 0)
            self.refuses(NoNumber, count_rest, 0, reach, 0)
            self.refuses(NoNumber, count_rest, -1, reach, 1)

    def test_no_reach_ahead_of_no_number(self):
        for thing in NO_REACHES:
            for many, bound in ((3, 7), (None, 7), (3, None), (-1, 0), (10 ** 18 + 1, 10 ** 12 + 1), (True, True)):
                self.refuses(NoReach, count_rest, many, thing, bound)

    def test_no_number_of_either(self):
        for thing in NO_WHOLES + [-1, -(10 ** 39), 10 ** 40 - 1]:
            for reach in ((0, 0), (1, 1), (3, 3)):
                self.refuses(NoNumber, count_rest, thing, reach, 7)
                self.refuses(NoNumber, count_rest, thing, reach, 0)
                self.refuses(NoNumber, count_rest, 3, reach, thing)
                self.refuses(NoNumber, count_rest, thing, reach, thing)
        for bound in (0, True, False, 10 ** 12 + 1, -7):
            self.refuses(NoNumber, count_rest, 3, (1, 1), bound)


class ListsOfTheAsker(Case):
    def test_nothing_told_is_kept(self):
        for reach in REACHES:
            self.stays(rule_of, reach)
            self.stays(far_count, 77, reach)
            self.stays(count_rest, 10 ** 17, reach, 10 ** 11)
            told = rule_of(reach)
            self.assertIsNot(told, rule_of(reach))
            told.clear()
            self.same(count_orders(40, reach), far_count(40, reach))


if __name__ == "__main__":
    unittest.main()
