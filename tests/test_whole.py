"""The whole program: points 2 and 3 over all modules together, and the interface."""

import copy
import importlib
import inspect
import itertools
import unittest

from nearplace.desk import Desk
from nearplace.drawn import drawn, drawn_counts, rolls_enough
from nearplace.far import count_rest, far_count, rule_of
from nearplace.numbered import all_orders, next_order, nth_order, number_of
from nearplace.orders import back_of, how_near, is_order, is_reach, keeps, mirrored, moves_of
from nearplace.papers import bound_says, paper_of, says
from nearplace.rings import keeps_ring, ring_count, ring_counts, ring_moves, ring_orders, turns_of
from nearplace.spread import at_table, by_moved, by_pairs, by_sum
from nearplace.stands import all_stands, count_orders, steps_of, ways_between
from nearplace.texts import order_text, reach_text, read_order, read_reach, read_wishes, wishes_text
from nearplace.wishes import count_wished, first_wished, nth_wished, places_wished
from tests.support import REACHES, Case, kept_orders

# Module by module: each function and its arguments, as the interface names them.
INTERFACE = {
    "orders": "is_order(thing) is_reach(thing) moves_of(order) keeps(order,reach) how_near(order) back_of(order) "
              "mirrored(order)",
    "stands": "all_stands(reach) steps_of(reach,stand) ways_between(reach,one,other,steps) count_orders(many,reach)",
    "numbered": "nth_order(many,reach,number) number_of(order,reach) next_order(order,reach) all_orders(many,reach)",
    "drawn": "drawn(many,reach,sides,rolls) drawn_counts(many,reach,sides,length) rolls_enough(many,reach,sides,share)",
    "wishes": "count_wished(many,reach,wishes) first_wished(many,reach,wishes) nth_wished(many,reach,wishes,number) "
              "places_wished(many,reach,wishes)",
    "papers": "says(many,reach,thing) paper_of(many,reach) bound_says(many,reach,word,thing)",
    "rings": "keeps_ring(order,reach) ring_moves(order,reach) turns_of(order,reach) ring_counts(many,reach) "
             "ring_count(many,reach) ring_orders(many,reach)",
    "spread": "at_table(many,reach) by_moved(many,reach) by_sum(many,reach) by_pairs(many,reach)",
    "far": "rule_of(reach) far_count(many,reach) count_rest(many,reach,bound)",
    "texts": "order_text(order) reach_text(reach) wishes_text(wishes) read_order(text) read_reach(text) read_wishes(text)",
}

WISHES = [("not", 0, 0), ("at", 3, 3)]
PAPER = paper_of(4, (2, 1))
# Each function with what it is handed.
CALLS = [
    (is_order, [1, 0]), (is_reach, (2, 1)), (moves_of, [2, 0, 1]), (keeps, [2, 0, 1], (2, 1)), (how_near, [2, 0, 1]),
    (back_of, [2, 0, 1]), (mirrored, [2, 0, 1]), (all_stands, (2, 1)), (steps_of, (2, 1), (0, 1)),
    (ways_between, (2, 1), (0, 1), (-1, 0), 3), (count_orders, 4, (2, 1)), (nth_order, 4, (2, 1), 3),
    (number_of, [2, 0, 1], (2, 1)), (next_order, [0, 1, 2], (2, 1)), (all_orders, 4, (2, 1)),
    (drawn, 4, (2, 1), 6, [5, 4, 3]), (drawn_counts, 4, (2, 1), 6, 3), (rolls_enough, 4, (2, 1), 6, (1, 9)),
    (count_wished, 4, (2, 1), WISHES), (first_wished, 4, (2, 1), WISHES), (nth_wished, 4, (2, 1), WISHES, 1),
    (places_wished, 4, (2, 1), WISHES), (says, 4, (2, 1), PAPER), (paper_of, 4, (2, 1)),
    (bound_says, 4, (2, 1), "most", PAPER), (keeps_ring, [3, 0, 1, 2], (2, 1)), (ring_moves, [3, 0, 1, 2], (2, 1)),
    (turns_of, [3, 0, 1, 2], (2, 1)), (ring_counts, 4, (2, 1)), (ring_count, 4, (2, 1)), (ring_orders, 4, (2, 1)),
    (at_table, 4, (2, 1)), (by_moved, 4, (2, 1)), (by_sum, 4, (2, 1)), (by_pairs, 4, (2, 1)), (rule_of, (2, 1)),
    (far_count, 44, (2, 1)), (count_rest, 444, (2, 1), 97), (order_text, [2, 0, 1]), (reach_text, (2, 1)),
    (wishes_text, WISHES), (read_order, "2 0 1"), (read_reach, "2,1"), (read_wishes, "at 0 1; not 2 2"),
]


def lists_in(told):
    """Each list and dict in what was told, itself among them."""
    found = [told] if isinstance(told, (list, dict)) else []
    inner = told.values() if isinstance(told, dict) else told if isinstance(told, (list, tuple)) else []
    return found + [each for item in inner for each in lists_in(item)]


def desk_on(many, reach):
    desk = Desk()
    desk.answer("row " + str(many) + " " + reach_text(reach))
    return desk


class Interface(Case):
    def test_functions_and_their_arguments(self):
        for module, functions in INTERFACE.items():
            there = importlib.import_module("nearplace." + module)
            for told in functions.split():
                name, arguments = told.rstrip(")").split("(")
                function = getattr(there, name)
                self.assertEqual("nearplace." + module, function.__module__)
                self.assertEqual(arguments.split(","), list(inspect.signature(function).parameters))

    def test_the_calls_below_go_through_all_functions(self):
        names = sorted(told.split("(")[0] for functions in INTERFACE.values() for told in functions.split())
        self.assertEqual(names, sorted(call[0].__name__ for call in CALLS))


class Promise(Case):
    def test_each_order_is_told_once_by_its_number(self):
        for reach in REACHES:
            for many in range(7):
                orders = kept_orders(many, reach)
                desk = desk_on(many, reach)
                self.same(orders, [nth_order(many, reach, number) for number in range(len(orders))])
                self.same(list(range(len(orders))), [number_of(order, reach) for order in orders])
                for number, order in enumerate(orders):
                    self.same(order, nth_wished(many, reach, [], number))
                    self.same(order_text(order), desk.answer("nth " + str(number)))
                    self.same(str(number), desk.answer("number " + order_text(order)))

    def test_all_modules_tell_the_same_count(self):
        for reach in REACHES:
            for many in range(41):
                count, paper = count_orders(many, reach), paper_of(many, reach)
                told = [
                    count_wished(many, reach, []), says(many, reach, paper), bound_says(many, reach, "most", paper),
                    bound_says(many, reach, "least", paper), far_count(many, reach), sum(by_moved(many, reach)),
                    sum(by_sum(many, reach)), sum(by_pairs(many, reach)), int(desk_on(many, reach).answer("count")),
                    number_of(nth_order(many, reach, count - 1), reach) + 1,
                ]
                self.same([count] * len(told), told)
                self.same([count] * many, [sum(row) for row in at_table(many, reach)])
                self.same(count % 10 ** 12, count_rest(many, reach, 10 ** 12))

    def test_of_all_rolls_each_order_is_drawn_by_as_many(self):
        for reach in ((1, 1), (2, 1), (2, 2)):
            for many, sides, length in ((2, 3, 4), (3, 2, 6), (4, 5, 3)):
                told = [drawn(many, reach, sides, list(rolls)) for rolls in itertools.product(range(sides), repeat=length)]
                each, left = drawn_counts(many, reach, sides, length)
                orders = [one[1] for one in told if one[0] == "order"]
                self.same(left, len(told) - len(orders))
                for order in kept_orders(many, reach):
                    self.same(each, orders.count(order))

    def test_wishes_rings_places_and_moves_are_of_the_same_orders(self):
        for reach in REACHES:
            for many in range(sum(reach) + 1, 7):
                orders = kept_orders(many, reach)
                on_ring = [list(each) for each in itertools.permutations(range(many)) if keeps_ring(list(each), reach)]
                self.same(len(on_ring), ring_count(many, reach))
                self.assertTrue(all(turns_of(order, reach) == 0 for order in orders))
                table = at_table(many, reach)
                for thing, row in enumerate(table):
                    self.same([place for place, count in enumerate(row) if count], places_wished(many, reach, [])[thing])
                far = [sum(abs(move) for move in moves_of(order)) for order in orders]
                self.same([far.count(each) for each in range(max(far) + 1)], by_sum(many, reach))


class OverAllModules(Case):
    def test_what_is_told_hangs_on_nothing_done_ahead(self):
        handed = copy.deepcopy([call[1:] for call in CALLS])
        first = [function(*things) for function, *things in CALLS]
        kept = copy.deepcopy(first)
        for told in first:
            self.spoil(told)
        for function, *things in reversed(CALLS):
            self.spoil(function(*things))
        self.same(kept, [function(*things) for function, *things in CALLS])
        self.same(handed, [call[1:] for call in CALLS])

    def test_no_two_told_are_one_nor_one_that_was_handed_in(self):
        told = [function(*things) for function, *things in CALLS for time in range(2)]
        handed = [thing for call in CALLS for thing in call[1:]]
        ours = lists_in(told)
        self.no_two_are_one(ours)
        self.assertFalse({id(each) for each in ours} & {id(each) for each in lists_in(handed)})

    def test_a_refusal_changes_nothing_told_later(self):
        ahead = [function(*things) for function, *things in CALLS]
        for function, *things in CALLS:
            if function not in (is_order, is_reach):
                with self.assertRaises(ValueError):
                    function(*[None] * len(things))
        self.same(ahead, [function(*things) for function, *things in CALLS])


if __name__ == "__main__":
    unittest.main()
