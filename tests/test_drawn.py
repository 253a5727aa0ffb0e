"""nearplace/drawn.py: points 2, 3, 9 and 10."""

import itertools
import unittest
from fractions import Fraction

from nearplace.drawn import drawn, drawn_counts, rolls_enough
from nearplace.errors import NoNumber, NoReach, NoRolls, NoShare
from nearplace.numbered import nth_order
from nearplace.stands import count_orders
from tests.support import ANYTHING, NO_NUMBERS, NO_REACHES, NO_WHOLES, REACHES, Case, count_by_things, kept_orders

SIDES = [2, 3, 6, 7, 10, 999, 1000]
NO_SIDES = NO_WHOLES + [-2, -1, 0, 1, 1001, 10 ** 40 - 1, -(10 ** 39)]
# With sides of 2.
NO_ROLLS = [thing for thing in ANYTHING if not isinstance(thing, list)] + [
    0, 1, 2, (), (0,), (0, 1), "01", b"\x00\x01", range(2), {0: 0}, {0}, [2], [-1], [0, 1, 2], [2, 0, 1], [0, -1, 1],
    [True], [False], [0, True], [False, 1], [None], ["0"], [b"0"], [[0]], [(0,)], [[]], [{}], [10 ** 40 - 1],
    [0] * 299 + [2],
]
NO_SHARES = ANYTHING + [
    0, 1, (), (1,), (1, 2, 3), [1, 2], [0, 1], (0, 0), (1, 0), (-1, 2), (1, -2), (-1, -2), (1, True), (True, 2),
    (False, 1), (10 ** 12, 1), (1, 10 ** 12), (10 ** 12, 10 ** 12), (10 ** 39, 10 ** 39), ("1", "2"), (1, "2"),
    ((1, 2),), (1, None), "1,2",
]


def draw_by_words(count, sides, rolls):
    """What the document tells step by step: the number of the order in the place of the order."""
    width, mark, used = 1, 0, 0
    while True:
        if width >= count:
            times = 0
            while (times + 1) * count <= width:
                times += 1
            if mark < times * count:
                return ("order", mark % count, used)
            width -= times * count
            mark -= times * count
        if used == len(rolls):
            return ("open", width, mark)
        width *= sides
        mark = mark * sides + rolls[used]
        used += 1


def numbers_going_round(length, below, start):
    """So many numbers below a bound, without a plain pattern."""
    told = []
    for place in range(length):
        start = (start * 1103515245 + 12345 + place) % 2147483648
        told.append(start // 65536 % below)
    return told


class Drawn(Case):
    def test_all_lists_of_few_rolls_by_the_words(self):
        for reach in REACHES:
            for many in range(5):
                orders = kept_orders(many, reach)
                for sides, length in ((2, 6), (3, 3), (6, 2), (25, 1)):
                    for rolls in itertools.product(range(sides), repeat=length):
                        word, first, other = draw_by_words(len(orders), sides, rolls)
                        due = (word, orders[first], other) if word == "order" else (word, first, other)
                        self.same(due, drawn(many, reach, sides, list(rolls)))

    def test_many_things_and_many_rolls(self):
        for reach in REACHES:
            for many in (7, 19, 40):
                count = count_by_things(many, reach)
                for sides in SIDES:
                    for length in (0, 1, 5, 20, 60, 300):
                        rolls = numbers_going_round(length, sides, many + length)
                        word, first, other = draw_by_words(count, sides, rolls)
                        due = (word, nth_order(many, reach, first), other) if word == "order" else (word, first, other)
                        self.same(due, drawn(many, reach, sides, rolls))

    def test_some_by_hand(self):
        self.same(("order", [], 0), drawn(0, (3, 3), 2, []))
        self.same(("order", [0], 0), drawn(1, (3, 3), 1000, []))
        self.same(("open", 1, 0), drawn(2, (1, 1), 2, []))
        self.same(("order", [0, 1], 1), drawn(2, (1, 1), 2, [0]))
        self.same(("order", [1, 0], 1), drawn(2, (1, 1), 2, [1]))
        # Three orders: of four marks the last one goes on, with a width of 1.
        self.same(("order", [1, 0, 2], 2), drawn(3, (1, 1), 2, [1, 0]))
        self.same(("open", 1, 0), drawn(3, (1, 1), 2, [1, 1]))
        self.same(("open", 2, 1), drawn(3, (1, 1), 2, [1, 1, 1]))
        self.same(("order", [0, 2, 1], 4), drawn(3, (1, 1), 2, [1, 1, 0, 1]))
        # Ten marks are parted among three: nine of them, each order by three.
        self.same(("order", [1, 0, 2], 1), drawn(3, (1, 1), 10, [8]))
        self.same(("open", 1, 0), drawn(3, (1, 1), 10, [9]))
        self.same(("order", [0, 2, 1], 2), drawn(3, (1, 1), 10, [9, 4]))

    def test_one_order_takes_no_rolls(self):
        for reach in REACHES:
            for many in (0, 1, 40) if 0 in reach else (0, 1):
                self.same(("order", list(range(many)), 0), drawn(many, reach, 2, []))
                self.same(("order", list(range(many)), 0), drawn(many, reach, 2, [1] * 300))

    def test_the_greatest_roll_and_the_greatest_sides(self):
        for sides in SIDES:
            drawn(9, (3, 3), sides, [sides - 1] * 300)
            self.refuses(NoRolls, drawn, 9, (3, 3), sides, [sides])
            self.refuses(NoRolls, drawn, 9, (3, 3), sides, [-1])
        self.same(("order", nth_order(3, (1, 1), 0), 1), drawn(3, (1, 1), 1000, [0]))
        self.same(("open", 1, 0), drawn(3, (1, 1), 1000, [999]))

    def test_rolls_behind_the_last_one_taken_change_nothing(self):
        for more in ([], [0], [1], [1, 0, 1] * 90):
            self.same(("order", [1, 0, 2], 2), drawn(3, (1, 1), 2, [1, 0] + more))


class Counts(Case):
    def test_all_lists_of_rolls_gone_through(self):
        for reach in REACHES:
            for many in range(6):
                count = count_orders(many, reach)
                for sides, lengths in ((2, range(8)), (3, range(5)), (5, range(4)), (100, range(2))):
                    for length in lengths:
                        numbers = [
                            draw_by_words(count, sides, rolls)
                            for rolls in itertools.product(range(sides), repeat=length)
                        ]
                        by_order = [0] * count
                        for word, number, used in numbers:
                            if word == "order":
                                by_order[number] += 1
                        self.assertEqual(1, len(set(by_order)))
                        none = len([told for told in numbers if told[0] == "open"])
                        self.same((by_order[0], none), drawn_counts(many, reach, sides, length))

    def test_all_lists_drawn(self):
        for many, reach, sides, length in ((4, (2, 1), 2, 7), (3, (3, 3), 4, 3), (5, (1, 1), 3, 4), (4, (3, 3), 5, 3)):
            told = [drawn(many, reach, sides, list(rolls)) for rolls in itertools.product(range(sides), repeat=length)]
            orders = [order for word, order, used in told if word == "order"]
            each, none = drawn_counts(many, reach, sides, length)
            for order in kept_orders(many, reach):
                self.assertEqual(each, orders.count(order))
            self.assertEqual(none, len(told) - len(orders))

    def test_all_together(self):
        for reach in REACHES:
            for many in (0, 1, 2, 5, 13, 40):
                for sides in SIDES:
                    for length in (0, 1, 2, 17, 59, 60):
                        each, none = drawn_counts(many, reach, sides, length)
                        self.assertEqual(sides ** length, each * count_orders(many, reach) + none)

    def test_some_by_hand(self):
        self.same((1, 0), drawn_counts(0, (3, 3), 2, 0))
        self.same((2 ** 60, 0), drawn_counts(1, (3, 3), 2, 60))
        self.same((0, 1), drawn_counts(2, (1, 1), 2, 0))
        self.same((1, 0), drawn_counts(2, (1, 1), 2, 1))
        self.same((0, 2), drawn_counts(3, (1, 1), 2, 1))
        self.same((1, 1), drawn_counts(3, (1, 1), 2, 2))
        self.same((2, 2), drawn_counts(3, (1, 1), 2, 3))
        self.same((333, 1), drawn_counts(3, (1, 1), 1000, 1))
        self.same((500, 0), drawn_counts(2, (1, 1), 1000, 1))


class Enough(Case):
    def share_of_none(self, many, reach, sides):
        """The shares that draw none, for 0 to three hundred rolls, one behind the other."""
        count = count_by_things(many, reach)
        none, shares = 1 % count, []
        for length in range(301):
            shares.append(Fraction(none, sides ** length))
            none = none * sides - none * sides // count * count
        return shares

    def test_the_least_number(self):
        shares = [
            (0, 1), (0, 999999999999), (1, 999999999999), (1, 1000), (1, 10), (1, 3), (1, 2),
            (500000000000, 999999999999), (999999999998, 999999999999), (1, 1), (999999999999, 999999999999), (2, 1),
            (999999999999, 1),
        ]
        for reach in REACHES:
            for many in (0, 1, 2, 3, 6, 40):
                for sides in SIDES:
                    by_length = self.share_of_none(many, reach, sides)
                    for above, below in shares:
                        enough = [length for length in range(301) if by_length[length] <= Fraction(above, below)]
                        due = enough[0] if enough else None
                        told = rolls_enough(many, reach, sides, (above, below))
                        self.same(due, told)

    def test_the_counts_tell_the_same(self):
        for many, reach, sides in ((5, (2, 2), 2), (12, (1, 1), 6), (40, (3, 3), 10), (4, (3, 3), 2)):
            for share in ((1, 2), (1, 100), (1, 10 ** 6), (1, 10 ** 9)):
                told = rolls_enough(many, reach, sides, share)
                for length in range(61):
                    each, none = drawn_counts(many, reach, sides, length)
                    enough = none * share[1] <= share[0] * sides ** length
                    self.assertEqual(enough, length >= told)

    def test_some_by_hand(self):
        self.same(0, rolls_enough(1, (3, 3), 2, (0, 1)))
        self.same(0, rolls_enough(3, (1, 1), 2, (1, 1)))
        self.same(0, rolls_enough(3, (1, 1), 2, (5, 2)))
        self.same(2, rolls_enough(3, (1, 1), 2, (99, 100)))
        self.same(2, rolls_enough(3, (1, 1), 2, (1, 4)))
        self.same(4, rolls_enough(3, (1, 1), 2, (24, 100)))
        self.same(4, rolls_enough(3, (1, 1), 2, (1, 16)))
        self.same(1, rolls_enough(3, (1, 1), 3, (0, 1)))
        self.same(1, rolls_enough(2, (1, 1), 1000, (0, 7)))
        self.assertIsNone(rolls_enough(3, (1, 1), 2, (0, 1)))
        self.assertIsNone(rolls_enough(3, (1, 1), 1000, (0, 5)))


    def test_the_most_that_are_enough(self):
        # The most orders, the fewest sides and the least share: never are just three hundred needed.
        self.same(102, rolls_enough(40, (3, 3), 2, (1, 999999999999)))
        # A share of 0 needs that the count, 3136 here, goes into the number of all lists without a rest.
        self.same(6, rolls_enough(14, (1, 2), 14, (0, 1)))
        self.assertIsNone(rolls_enough(40, (3, 3), 2, (0, 999999999999)))


class Refusals(Case):
    def test_no_reach_first(self):
        for thing in NO_REACHES:
            for many, sides, last in ((3, 2, []), (None, None, None), (41, 1, "x")):
                self.refuses(NoReach, drawn, many, thing, sides, last)
                self.refuses(NoReach, drawn_counts, many, thing, sides, last)
                self.refuses(NoReach, rolls_enough, many, thing, sides, last)

    def test_no_number_of_things(self):
        for thing in NO_NUMBERS:
            for sides, rolls, length, share in ((2, [0], 1, (1, 2)), (1, None, None, None), (None, [2], 61, (1, 0))):
                self.refuses(NoNumber, drawn, thing, (1, 1), sides, rolls)
                self.refuses(NoNumber, drawn_counts, thing, (1, 1), sides, length)
                self.refuses(NoNumber, rolls_enough, thing, (1, 1), sides, share)

    def test_no_number_of_sides(self):
        for thing in NO_SIDES:
            for many in (0, 3, 40):
                for rolls, length, share in (([0], 1, (1, 2)), ([], 0, (0, 1)), (None, None, None)):
                    self.refuses(NoNumber, drawn, many, (1, 1), thing, rolls)
                    self.refuses(NoNumber, drawn_counts, many, (1, 1), thing, length)
                    self.refuses(NoNumber, rolls_enough, many, (1, 1), thing, share)

    def test_no_rolls(self):
        for thing in NO_ROLLS:
            for many in (0, 1, 3, 40):
                self.refuses(NoRolls, drawn, many, (1, 1), 2, thing)

    def test_rolls_that_would_not_be_taken_are_looked_at(self):
        for wrong in (2, -1, True, None, "0", [0]):
            self.refuses(NoRolls, drawn, 0, (1, 1), 2, [wrong])
            self.refuses(NoRolls, drawn, 2, (1, 1), 2, [0, wrong])
            self.refuses(NoRolls, drawn, 2, (1, 1), 2, [0] * 299 + [wrong])

    def test_no_number_of_rolls(self):
        for thing in NO_WHOLES + [-1, 61, 62, 10 ** 40 - 1]:
            for many in (0, 1, 3, 40):
                self.refuses(NoNumber, drawn_counts, many, (1, 1), 2, thing)

    def test_no_share(self):
        for thing in NO_SHARES:
            for many in (0, 1, 3, 40):
                self.refuses(NoShare, rolls_enough, many, (1, 1), 2, thing)


class ListsOfTheAsker(Case):
    def test_nothing_handed_in_is_changed_and_nothing_told_is_kept(self):
        for reach in REACHES:
            self.stays(drawn, 4, reach, 6, [5, 3, 2, 1, 0, 4])
            self.stays(drawn, 40, reach, 2, [1, 0] * 50)
            self.stays(drawn, 40, reach, 2, [])
            self.stays(drawn_counts, 9, reach, 6, 7)
            self.stays(rolls_enough, 9, reach, 6, (1, 7))

    def test_no_two_told_are_one(self):
        self.no_two_are_one([drawn(3, (1, 1), 2, [1, 0])[1] for time in range(3)])

    def test_changing_the_rolls_later_changes_nothing_told(self):
        rolls = [1, 0]
        told = drawn(3, (1, 1), 2, rolls)
        rolls.clear()
        self.same(("order", [1, 0, 2], 2), told)


if __name__ == "__main__":
    unittest.main()
