"""nearplace/walks.py: what the modules of points 8, 9, 11, 12 and 15 have in common."""

import unittest

from nearplace.stands import count_orders
from nearplace.walks import row_walks
from tests.support import REACHES, Case, kept_orders


class RowWalks(Case):
    def test_the_walks_are_the_orders(self):
        for reach in REACHES:
            for many in range(6):
                walks, orders = row_walks(many, reach), kept_orders(many, reach)
                self.same(len(orders), walks.how_many())
                self.same(orders, [walks.things_of(number) for number in range(len(orders))])
                self.same(list(range(len(orders))), [walks.number_among(order) for order in orders])

    def test_how_many_have_a_thing_at_a_place(self):
        for reach in REACHES:
            for many in range(7):
                due = [[0] * many for thing in range(many)]
                for order in kept_orders(many, reach):
                    for place, thing in enumerate(order):
                        due[thing][place] += 1
                self.same(due, row_walks(many, reach).counts_at())

    def test_each_thing_stands_somewhere_and_at_each_place_is_one(self):
        for reach in REACHES:
            counts = row_walks(40, reach).counts_at()
            for at in range(40):
                self.same(count_orders(40, reach), sum(counts[at]))
                self.same(count_orders(40, reach), sum(row[at] for row in counts))


if __name__ == "__main__":
    unittest.main()
