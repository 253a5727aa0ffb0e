"""What several test files need: reaches, orders found by going through all, and wrong things of many kinds."""

import copy
import unittest

REACHES = [(left, right) for left in range(4) for right in range(4)]


class EqualToAll:
    """Says that it is equal to whatever it is compared with."""

    def __eq__(self, other):
        return True

    def __hash__(self):
        return 0


class EqualToNone:
    """Lets itself not be compared, counted, hashed or gone through."""

    __hash__ = None

    def __eq__(self, other):
        raise RuntimeError("compared")

    def __len__(self):
        raise RuntimeError("counted")

    def __iter__(self):
        raise RuntimeError("gone through")

    def __bool__(self):
        raise RuntimeError("tested")


# None of these is an order, a reach, a stand or a whole number from 0 to forty.
ANYTHING = [
    None, True, False, -1, 41, -(10 ** 39), 10 ** 40 - 1,
    "", "0", "none", "1,1", b"", b"\x00", b"\x00\x01",
    {}, {0: 0}, {0: 1, 1: 0}, set(), {0}, {0, 1}, frozenset(), frozenset({0, 1}),
    range(0), range(2), iter([0]), len, int, list, object(), Ellipsis, NotImplemented, ValueError("x"), lambda: 0,
    [None], [True], [False], [False, True], [0, True], ["0"], [b"0"], [[0]], [[]], [()], [{}], [{0}], [-1], [1],
    [0, "1"], [0, None], [0, [1]], [[[[]]]], [0, 0], [0, 2], [1, 2], [-1, 0],
    (None,), (True,), (False,), ("0",), ([0],), ((),), ({},), ((((),),),), (-4,), (4,), (0, 0, 0), (2, 1, 0),
    (None, 0), (0, None), (True, 1), (1, True), (False, 0), (0, False), ("1", "1"), ([1], [1]), (-1, -2), (4, -4),
    EqualToAll(), [EqualToAll()], (EqualToAll(),), (EqualToAll(), EqualToAll()),
    EqualToNone(), [EqualToNone()], (EqualToNone(),), (EqualToNone(), EqualToNone()), (0, EqualToNone()),
]

NO_NUMBERS = ANYTHING + [[], (), [0], (0,), (0, 1), (1, 1)]
NO_ORDERS = ANYTHING + [
    0, 1, (), (0,), (0, 1), (1, 0), list(range(41)), list(range(1, 41)), [0] * 40, [0, 1, 2, 2], [10 ** 39, 0],
    list(range(39)) + [True], [1, False], list(range(100)), [list(range(3))], "012",
]
NO_REACHES = ANYTHING + [
    0, 1, 3, (), [], (0,), (0, 1, 2), (0, 0, 0), [0, 0], [1, 1], [3, 3], (-1, 0), (0, -1), (4, 0), (0, 4), (4, 4),
    (3, 10 ** 39), (1, 1, 1), ((1, 1),), [(1, 1)], (True, True), (False, False), (1, "1"), (1, (1,)), range(1, 2),
]
# None of these is a whole number at all.
NO_WHOLES = [thing for thing in NO_NUMBERS if thing.__class__ is not int]


def is_kept(order, reach):
    """Whether an order keeps a reach, by the words of the document."""
    return all(-reach[0] <= place - thing <= reach[1] for place, thing in enumerate(order))


def kept_orders(many, reach):
    """All orders of so many things that keep a reach, in order as lists are, found by trying things at places."""
    found = []

    def go_on(order):
        if len(order) == many:
            found.append(list(order))
        for thing in range(many):
            if thing not in order and len(order) < many and -reach[0] <= len(order) - thing <= reach[1]:
                go_on(order + [thing])

    go_on([])
    return found


def count_by_things(many, reach, lets=lambda thing, place: True):
    """How many orders keep a reach with things at places that are let, by the sets of things that stand (no stands)."""
    counts = {0: 1}
    for place in range(many):
        after = {}
        for mask, count in counts.items():
            for thing in range(max(0, place - reach[1]), min(many, place + reach[0] + 1)):
                behind = mask | 1 << thing
                late = place - reach[1]
                if behind != mask and (late < 0 or behind >> late & 1) and lets(thing, place):
                    after[behind] = after.get(behind, 0) + count
        counts = after
    return counts.get((1 << many) - 1, 0)


class Case(unittest.TestCase):
    def refuses(self, error, function, *handed):
        """The very error is raised, not one under it or above it."""
        with self.assertRaises(error) as caught:
            function(*handed)
        self.assertIs(error, caught.exception.__class__)

    def same(self, due, told):
        """Equal, and of the same kinds all through: no truth for a number, no tuple for a list."""
        self.assertIs(due.__class__, told.__class__, (due, told))
        self.assertEqual(due, told)
        if isinstance(due, (list, tuple)):
            for one, other in zip(due, told):
                self.same(one, other)
        if isinstance(due, dict):
            self.same(sorted(due.items()), sorted(told.items()))

    def stays(self, function, *handed):
        """What is handed in is the same behind the call, and so is what is told when it is asked again."""
        ahead = copy.deepcopy(handed)
        told = function(*handed)
        self.same(ahead, handed)
        kept = copy.deepcopy(told)
        self.spoil(told)
        self.same(ahead, handed)
        self.same(kept, function(*handed))

    def no_two_are_one(self, lists):
        """No list stands twice among these."""
        self.assertEqual(len(lists), len({id(told) for told in lists}))

    def spoil(self, told):
        """Changes each list and each dict in what was told."""
        if isinstance(told, dict):
            told[next(iter(told))] = "spoilt"
            told["more"] = "spoilt"
        if isinstance(told, (list, tuple)):
            for item in told:
                self.spoil(item)
        if isinstance(told, list):
            told.append("spoilt")
            told.reverse()
